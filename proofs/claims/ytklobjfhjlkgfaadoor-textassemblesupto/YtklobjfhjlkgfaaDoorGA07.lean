import Derived.Test.YtklobjfhjlkgfaaDoorGA04
import Derived.Test.YtklobjfhjlkgfaaDoorGA05
import Derived.Test.YtklobjfhjlkgfaaDoorGA06
import Derived.OwnWalk
import Derived.Lib.SmallJoins
import Derived.Lib.AppendIntMem
/- The program's Show: the line of an instruction. -/
namespace Go.Proofs.YtklobjfhjlkgfaaDoor.TW
open Go.RowKit
set_option linter.unusedVariables false
set_option maxRecDepth 100000
set_option linter.unusedSimpArgs false

def partL (r : Row) (i : PM.Ins) (j : Nat) : Int := getL i (letIx (letAt r.parts j))
def wordL (r : Row) (i : PM.Ins) (k : Nat) : List ByteArray := r.name :: (List.range k).map fun j => itoaS (partL r i j)
theorem wordL_succ (r : Row) (i : PM.Ins) (k : Nat) : wordL r i (k + 1) = wordL r i k ++ [itoaS (partL r i k)] := by
  unfold wordL
  rw [List.range_succ, List.map_append]
  rfl
theorem wordL_length (r : Row) (i : PM.Ins) (k : Nat) : (wordL r i k).length = k + 1 := by simp [wordL]
def numsOf (r : Row) (i : PM.Ins) : List Int := (List.range r.parts.size).map fun j => partL r i j
/-- what Show answers -/
def showN (i : PM.Ins) : ByteArray := wordsS (rowOfN i i.bad).name (numsOf (rowOfN i i.bad) i)
theorem tail_snoc (sep : List UInt8) (x : List UInt8) (r : List (List UInt8)) : Lib.joinTail sep (r ++ [x]) = Lib.joinTail sep r ++ (sep ++ x) := by
  simp [Lib.joinTail]
theorem join_snoc (n : List UInt8) (r : List (List UInt8)) (x sep : List UInt8) : Lib.join ((n :: r) ++ [x]) sep = Lib.join (n :: r) sep ++ (sep ++ x) := by
  show Lib.join (n :: (r ++ [x])) sep = _
  rw [Lib.join_cons, Lib.join_cons, tail_snoc, List.append_assoc]
theorem join_words (r : Row) (i : PM.Ins) (xs : List Int) : ∀ k, (∀ j, j < k → xs.getD j 0 = partL r i j) → Lib.join ((wordL r i k).map (·.data.toList)) [32] = (wordsTo r.name xs k).data.toList
  | 0, _ => by
    show Lib.join [r.name.data.toList] [32] = _
    rw [Lib.join_one]
    rfl
  | k + 1, h => by
    rw [wordL_succ, List.map_append]
    show Lib.join ((r.name.data.toList :: ((List.range k).map fun j => itoaS (partL r i j)).map (·.data.toList)) ++ [(itoaS (partL r i k)).data.toList]) [32] = _
    rw [join_snoc]
    have ih := join_words r i xs k (fun j hj => h j (by omega))
    have e : (r.name.data.toList :: ((List.range k).map fun j => itoaS (partL r i j)).map (·.data.toList)) = (wordL r i k).map (·.data.toList) := rfl
    rw [e, ih]
    show _ = ((wordsTo r.name xs k ++ blank) ++ itoaS (xs.getD k 0)).data.toList
    rw [h k (by omega), ByteArray.data_append, ByteArray.data_append]
    simp [blank]
theorem show_eq (r : Row) (i : PM.Ins) : (⟨(Lib.join ((wordL r i r.parts.size).map (·.data.toList)) [32]).toArray⟩ : ByteArray) = wordsS r.name (numsOf r i) := by
  have hl : (numsOf r i).length = r.parts.size := by simp [numsOf]
  rw [join_words r i (numsOf r i) r.parts.size (fun j hj => by
    unfold numsOf
    rw [List.getD_eq_getElem?_getD, List.getElem?_map, List.getElem?_range hj]
    rfl)]
  unfold wordsS
  rw [hl]
theorem partL_i64 (r : Row) (i : PM.Ins) (hf : i.fits) (j : Nat) : I64 (partL r i j) := by
  unfold PM.Ins.fits PM.Byt at hf
  unfold partL I64
  have h5 := letIx_lt (letAt r.parts j)
  obtain ⟨L, hL⟩ : ∃ L, L = letIx (letAt r.parts j) := ⟨_, rfl⟩
  rw [← hL] at h5 ⊢
  match L, h5 with
  | 0, _ => show _ ≤ i.op ∧ i.op ≤ _; omega
  | 1, _ => show _ ≤ i.a ∧ i.a ≤ _; omega
  | 2, _ => show _ ≤ i.b ∧ i.b ≤ _; omega
  | 3, _ => show _ ≤ i.c ∧ i.c ≤ _; omega
  | 4, _ => show _ ≤ i.m ∧ i.m ≤ _; omega
theorem join_len (r : Row) (i : PM.Ins) (hf : i.fits) (hn : r.name.size ≤ 100) (hp : r.parts.size ≤ 100) : (Lib.join ((wordL r i r.parts.size).map (·.data.toList)) [32]).length ≤ 140737488355328 := by
  have e := show_eq r i
  have hl : (numsOf r i).length = r.parts.size := by simp [numsOf]
  have h1 := wordsTo_size r.name (numsOf r i) (fun k hk => by
    have hk2 : k < r.parts.size := by omega
    unfold numsOf
    rw [List.getD_eq_getElem?_getD, List.getElem?_map, List.getElem?_range hk2]
    exact partL_i64 r i hf k) (numsOf r i).length (Nat.le_refl _)
  have h2 : (Lib.join ((wordL r i r.parts.size).map (·.data.toList)) [32]).length = (wordsS r.name (numsOf r i)).size := by
    rw [← e]
    show _ = (List.toArray _).size
    simp
  rw [h2]
  show (wordsTo r.name (numsOf r i) (numsOf r i).length).size ≤ _
  omega
theorem infoS : (Tryd.prog.info? 9).map (fun i => (i.zero, i.size, i.bytes)) = some (some (.string ByteArray.empty), 1, 16) := by kernel_rfl
/-- the row of the words stands in no iterator's block -/
theorem own_ne {w : World} {base : Nat} {e : TypeId} {v : Value} {n : Nat} {xs : List Value} {K : Nat} {s : ByteArray} {p : Nat} (h : w.ownsRow base e 1 v n xs) (hk : w.heap[K]? = some (.stringIter s p)) : some K ≠ v.ownBlock := by
  intro e1
  rcases h.2 with ⟨rfl, _⟩ | ⟨g, cap, cur, rfl, _, hg, _⟩
  · cases e1
  · have e2 : K = g := Option.some.inj e1
    rw [e2, hg] at hk
    cases hk
theorem own_ne_low {w : World} {base : Nat} {e : TypeId} {v : Value} {n : Nat} {xs : List Value} {K : Nat} (h : w.ownsRow base e 1 v n xs) (hk : K < base) : some K ≠ v.ownBlock := by
  intro e1
  rcases h.2 with ⟨rfl, _⟩ | ⟨g, cap, cur, rfl, hb, hg, _⟩
  · cases e1
  · have e2 : K = g := Option.some.inj e1
    omega
/-- an owned row behind a call that keeps what was there -/
theorem own_below {w w' : World} {base : Nat} {e : TypeId} {v : Value} {n : Nat} {xs : List Value} (h : w.ownsRow base e 1 v n xs) (hb : Below w.heap.size w w') : w'.ownsRow base e 1 v n xs := by
  obtain ⟨h1, h2⟩ := h
  refine ⟨h1, ?_⟩
  rcases h2 with h2 | ⟨g, cap, cur, hv, hbg, hg, rest⟩
  · exact .inl h2
  · exact .inr ⟨g, cap, cur, hv, hbg, B.below hg hb (B.isLt hg), rest⟩
theorem own_iter {w : World} {base : Nat} {e : TypeId} {v : Value} {n : Nat} {xs : List Value} {K : Nat} {s : ByteArray} {p p' : Nat} (h : w.ownsRow base e 1 v n xs) (hk : w.heap[K]? = some (.stringIter s p)) : (w.iterAt K s p').ownsRow base e 1 v n xs := by
  have hne := own_ne h hk
  obtain ⟨h1, h2⟩ := h
  refine ⟨h1, ?_⟩
  rcases h2 with h2 | ⟨g, cap, cur, hv, hbg, hg, rest⟩
  · exact .inl h2
  · refine .inr ⟨g, cap, cur, hv, hbg, ?_, rest⟩
    rw [Lib.iterAt_other]
    · exact hg
    · intro e1
      rw [hv, e1] at hne
      exact hne rfl
end Go.Proofs.YtklobjfhjlkgfaaDoor.TW
/- What must be laid; the program's Show, its walk. -/
namespace Go.Proofs.YtklobjfhjlkgfaaDoor.TW
open Go.RowKit
set_option linter.unusedVariables false
set_option maxRecDepth 100000
set_option linter.unusedSimpArgs false

theorem gPow9 : (match Tryd.prog.globalNamed "internal/strconv.uint64pow10" with | some g => decide (g < 9) | none => false) = true := by kernel_rfl
theorem gPow : ∃ g, Tryd.prog.globalNamed "internal/strconv.uint64pow10" = some g ∧ g < 9 := by
  have h := gPow9
  cases e : Tryd.prog.globalNamed "internal/strconv.uint64pow10" with
  | none => rw [e] at h; cases h
  | some g => rw [e] at h; exact ⟨g, rfl, of_decide_eq_true h⟩
/-- what the package variables hold -/
structure Lay (tb o cap : Nat) (w : World) : Prop where
  tab : Tab tb o cap w
  pow : Lib.TabIs Tryd.prog w "internal/strconv.uint64pow10" .u64 Lib.pow10Tab
  ml : ∃ m, w.cell? ⟨1, 0, none⟩ = some (.int .i64 m)
  es : ∃ ev, w.cell? ⟨3, 0, none⟩ = some ev ∧ (ev = .nilIface ∨ ∃ te pe, ev = .iface te pe)
  er : ∃ ev, w.cell? ⟨4, 0, none⟩ = some ev ∧ (ev = .nilIface ∨ ∃ te pe, ev = .iface te pe)
  lt : 9 ≤ w.heap.size
theorem Lay.below {tb o cap : Nat} {w w' : World} (h : Lay tb o cap w) (hb : Below w.heap.size w w') : Lay tb o cap w' := by
  obtain ⟨g, hg, hg9⟩ := gPow
  have h9 := h.lt
  refine ⟨h.tab.below hb, ?_, ?_, ?_, ?_, Nat.le_trans h.lt hb.size⟩
  · exact var?_below hb hg (by omega) h.pow
  · obtain ⟨m, hm⟩ := h.ml
    exact ⟨m, (hb.cell (p := ⟨1, 0, none⟩) (by show 1 < _; omega)).trans hm⟩
  · obtain ⟨m, hm, hr⟩ := h.es
    exact ⟨m, (hb.cell (p := ⟨3, 0, none⟩) (by show 3 < _; omega)).trans hm, hr⟩
  · obtain ⟨m, hm, hr⟩ := h.er
    exact ⟨m, (hb.cell (p := ⟨4, 0, none⟩) (by show 4 < _; omega)).trans hm, hr⟩
theorem itoa_any (n : Int) (h : I64 n) (w : World) (tb o cap : Nat) (hl : Lay tb o cap w) : Calls Tryd.prog 19 #[.int .i64 n] w fun e w' => e = .returned (.string (itoaS n)) ∧ Below w.heap.size w w' :=
  (Tryd.strconv_Itoa n h.1 h.2 w hl.pow).mono fun e w' ⟨he, k, os, hw⟩ => ⟨he, by rw [hw]; exact Lib.below_grow _ _ (Nat.le_refl _) _ _⟩
theorem ask_shape (p : PM.Pr) (i : PM.Ins) : ∃ k a1 a2 a3 a4, PM.askN p i = #[.int .i64 k, .int .i64 a1, .int .i64 a2, .int .i64 a3, .int .i64 a4] ∧ (k == 4) = i.bad := by
  unfold PM.askN
  by_cases hb : i.bad = true
  · rw [if_pos hb]; exact ⟨_, _, _, _, _, rfl, by rw [hb]; rfl⟩
  · have hb' : i.bad = false := by simpa using hb
    rw [if_neg hb, hb']
    split
    · exact ⟨_, _, _, _, _, rfl, rfl⟩
    · split
      · exact ⟨_, _, _, _, _, rfl, rfl⟩
      · split
        · exact ⟨_, _, _, _, _, rfl, rfl⟩
        · exact ⟨_, _, _, _, _, rfl, rfl⟩
def zeroP : PM.Pr := ⟨fun _ => 0, 0, 0, 0, 0, 0⟩
theorem rowOf_in (i : PM.Ins) (bad : Bool) : ∃ k, rowOfN i bad = rowAt k := by
  unfold rowOfN
  split
  · exact ⟨21, rfl⟩
  · have : ∀ n k, ∃ j, rowFrom i n k = rowAt j := by
      intro n
      induction n with
      | zero => exact fun k => ⟨21, rfl⟩
      | succ n ih =>
        intro k
        unfold rowFrom
        split
        · exact ⟨k, rfl⟩
        · exact ih (k + 1)
    exact this 22 0
theorem show_no (i : PM.Ins) (w : World) (h : ¬ i.fits) : Calls Tryd.prog 6 #[.agg i.cells] w fun e w' => e = .returned (.tuple #[.string ⟨#[]⟩, .int .i64 3]) ∧ Below w.heap.size w w' := by
  have HE : Hid (∀ V, Calls Tryd.prog 16 #[.agg #[.int .i64 i.op, .int .i64 i.a, .int .i64 i.b, .int .i64 i.c, .int .i64 i.m]] V fun e w' => e = .returned (.tuple #[.string ⟨#[]⟩, .int .i64 3]) ∧ Below V.heap.size V w') := fun V => by
    have hh := PW.encode_any i V
    rw [if_neg h] at hh
    exact hh
  have HB0 := hideC ((Below.refl w.heap.size w).alloc (Nat.le_refl _) (.cells #[.int .i64 i.op, .int .i64 i.a, .int .i64 i.b, .int .i64 i.c, .int .i64 i.m] 23))
  simp only [PM.Ins.cells]
  clear h
  go_enter Tryd.func6, Tryd.ntmps6
  go_wp2_with (go_at_call 16; refine (HE.out _).mono ?_; rintro e w1 ⟨rfl, hb1⟩; have HB1 := hideC (add_below HB0.out hb1); clear hb1)
  go_ret2
  exact ⟨rfl, HB1.out⟩
theorem own_base {w : World} {base : Nat} {e : TypeId} {v : Value} {n : Nat} {xs : List Value} (h : w.ownsRow base e 1 v n xs) : ∀ k, v.ownBlock = some k → base ≤ k := by
  intro k hk
  rcases h.2 with ⟨rfl, _⟩ | ⟨g, cap, cur, rfl, hb, hg, _⟩
  · cases hk
  · have e2 : g = k := Option.some.inj hk
    omega
theorem own_cells {w : World} {base : Nat} {e : TypeId} {v : Value} {n : Nat} {xs : List Value} (h : w.ownsRow base e 1 v n xs) (hn : 0 < n) : ∃ g cap, v = .slice (some ⟨g, 0, none⟩) n cap ∧ base ≤ g ∧ g < w.heap.size ∧ n ≤ cap ∧ ∀ j u, xs[j]? = some u → w.cell? ⟨g, 0 + j, none⟩ = some u := by
  rcases h.2 with ⟨rfl, h0⟩ | ⟨g, cap, cur, rfl, hb, hg, hc, _, _, ht⟩
  · omega
  · refine ⟨g, cap, rfl, hb, B.isLt hg, hc, fun j u hj => ?_⟩
    rw [Nat.zero_add]
    refine B.cell hg j ?_
    rw [← ht] at hj
    have h3 : j < (cur.toList.take (n * 1)).length := (List.getElem?_eq_some_iff.1 hj).1
    rw [List.length_take] at h3
    rw [List.getElem?_take_of_lt (by omega)] at hj
    simpa using hj
set_option maxHeartbeats 4000000 in
theorem show_yes (i : PM.Ins) (w : World) (tb o cap : Nat) (hl : Lay tb o cap w) (h : i.fits) : Calls Tryd.prog 6 #[.agg i.cells] w fun e w' => e = .returned (.tuple #[.string (showN i), .int .i64 0]) ∧ Below w.heap.size w w' := by
  have HL := hideC hl
  have HF := hideC h
  have HE : Hid (∀ V, Calls Tryd.prog 16 #[.agg #[.int .i64 i.op, .int .i64 i.a, .int .i64 i.b, .int .i64 i.c, .int .i64 i.m]] V fun e w' => e = .returned (.tuple #[.string i.bytes, .int .i64 0]) ∧ Below V.heap.size V w') := fun V => by
    have hh := PW.encode_any i V
    rw [if_pos h] at hh
    exact hh
  obtain ⟨k, a1, a2, a3, a4, hask, hk4⟩ := ask_shape zeroP i
  have HA : Hid (∀ V, Calls Tryd.prog 17 #[.agg #[.int .i64 0, .int .i64 0, .int .i64 0, .int .i64 0, .int .i64 0, .int .i64 0, .int .i64 0, .int .i64 0, .int .i64 0, .int .i64 0, .int .i64 0, .int .i64 0, .int .i64 0], .string i.bytes] V fun e w' => e = .returned (.tuple #[.agg #[.int .i64 k, .int .i64 a1, .int .i64 a2, .int .i64 a3, .int .i64 a4], .int .i64 0]) ∧ Below V.heap.size V w') := fun V => by
    have hh := PW.ask_yes zeroP i.bytes V (PM.bytes_size i)
    rw [PM.ins_bytes i h, hask] at hh
    exact hh
  clear hask
  obtain ⟨rk, hrk⟩ := rowOf_in i i.bad
  have hrn := (row_fine rk).2.2.1
  have hrp := row_size rk
  have hra := row_ascii rk
  have HR : Hid (∀ V, Lay tb o cap V → Calls Tryd.prog 18 #[.agg #[.int .i64 i.op, .int .i64 i.a, .int .i64 i.b, .int .i64 i.c, .int .i64 i.m], .bool i.bad] V fun e w' => e = .returned (.agg #[.string (rowOfN i i.bad).name, .int .i64 (rowOfN i i.bad).op, .int .i64 (rowOfN i i.bad).call, .string (rowOfN i i.bad).parts]) ∧ Below V.heap.size V w') := fun V hV => rowOf_any i i.bad V tb o cap hV.tab
  have HS : Hid (showN i = wordsS (rowOfN i i.bad).name (numsOf (rowOfN i i.bad) i)) := rfl
  rw [← hrk] at hrn hrp hra
  clear hrk
  obtain ⟨r, hr⟩ : ∃ r, r = rowOfN i i.bad := ⟨_, rfl⟩
  rw [← hr] at hrn hrp hra HR HS
  clear hr
  obtain ⟨bd, hbd⟩ : ∃ bd, bd = i.bad := ⟨_, rfl⟩
  rw [← hbd] at hk4 HR
  clear hbd
  obtain ⟨S, hS⟩ : ∃ S, S = showN i := ⟨_, rfl⟩
  rw [← hS] at HS ⊢
  obtain ⟨EB, hEB⟩ : ∃ EB, EB = i.bytes := ⟨_, rfl⟩
  rw [← hEB] at HE HA
  clear hS hl h hEB
  have HRA := hideC hra
  clear hra
  have HB0 := hideC ((Below.refl w.heap.size w).alloc (Nat.le_refl _) (.cells #[.int .i64 i.op, .int .i64 i.a, .int .i64 i.b, .int .i64 i.c, .int .i64 i.m] 23))
  have X0 := hideC (B.new w #[.int .i64 i.op, .int .i64 i.a, .int .i64 i.b, .int .i64 i.c, .int .i64 i.m] 23)
  simp only [PM.Ins.cells]
  go_enter Tryd.func6, Tryd.ntmps6
  go_wp2_with (first
    | (go_at_call 16; refine (HE.out _).mono ?_; rintro e w1 ⟨rfl, hb1⟩; have X1 := hideC (B.below X0.out hb1 (B.isLt X0.out)); have HB1 := hideC (add_below HB0.out hb1); have z1 := hb1.size; clear hb1)
    | (go_at_call 17; refine (HA.out _).mono ?_; rintro e w2 ⟨rfl, hb2⟩; have X2 := hideC (B.below X1.out hb2 (B.isLt X1.out)); have HB2 := hideC (add_below HB1.out hb2); clear hb2; have c0 := B.cell (v := .int .i64 i.op) X2.out 0 rfl; have c1 := B.cell (v := .int .i64 i.a) X2.out 1 rfl; have c2 := B.cell (v := .int .i64 i.b) X2.out 2 rfl; have c3 := B.cell (v := .int .i64 i.c) X2.out 3 rfl; have c4 := B.cell (v := .int .i64 i.m) X2.out 4 rfl; have hlt2 := B.isLt X2.out)
    | (go_at_call 18; refine (HR.out _ (HL.out.below (HB2.out.alloc HB2.out.size _))).mono ?_; rintro e w3 ⟨rfl, hb3⟩; have X3 := hideC (B.below (B.alloc X2.out _) hb3 (B.isLt (B.alloc X2.out _))); have HB3 := hideC (add_below (HB2.out.alloc HB2.out.size _) hb3); clear hb3 c0 c1 c2 c3 c4; have hlt3 := B.isLt X3.out))
  clear hk4 HE HA HR X0 X1 HB0 HB1 z1 X2 HB2 hlt2
  obtain ⟨i0, hi0, hz0, hz1, hz2⟩ := info_parts infoS
  have LW : Hid ((((w3.alloc (.cells #[.string r.name, .int .i64 r.op, .int .i64 r.call, .string r.parts] 48)).alloc (.cells #[.string r.name] 9)).alloc (.stringIter r.parts 0)).ownsRow (w3.heap.size + 1) 9 1 (.slice (some ⟨w3.heap.size + 1, 0, none⟩) 1 1) 1 [.string r.name]) := by
    refine ⟨rfl, .inr ⟨w3.heap.size + 1, 1, #[.string r.name], rfl, Nat.le_refl _, ?_, Nat.le_refl _, by unfold maxLen; omega, rfl, rfl⟩⟩
    have := B.alloc (B.new (w3.alloc (.cells #[.string r.name, .int .i64 r.op, .int .i64 r.call, .string r.parts] 48)) #[.string r.name] 9) (.stringIter r.parts 0)
    rw [show (w3.alloc (.cells #[.string r.name, .int .i64 r.op, .int .i64 r.call, .string r.parts] 48)).heap.size = w3.heap.size + 1 by simp] at this
    exact this
  have L0 := hideC (B.alloc (B.alloc (B.alloc X3.out (.cells #[.string r.name, .int .i64 r.op, .int .i64 r.call, .string r.parts] 48)) (.cells #[.string r.name] 9)) (.stringIter r.parts 0))
  have LB := hideC (((HB3.out.alloc HB3.out.size (.cells #[.string r.name, .int .i64 r.op, .int .i64 r.call, .string r.parts] 48)).alloc (by simp; omega) (.cells #[.string r.name] 9)).alloc (by simp; omega) (.stringIter r.parts 0))
  have LI : Hid ((((w3.alloc (.cells #[.string r.name, .int .i64 r.op, .int .i64 r.call, .string r.parts] 48)).alloc (.cells #[.string r.name] 9)).alloc (.stringIter r.parts 0)).heap[w3.heap.size + 1 + 1]? = some (.stringIter r.parts 0)) := by
    have := World.iter_heap ((w3.alloc (.cells #[.string r.name, .int .i64 r.op, .int .i64 r.call, .string r.parts] 48)).alloc (.cells #[.string r.name] 9)) r.parts 0
    rw [show ((w3.alloc (.cells #[.string r.name, .int .i64 r.op, .int .i64 r.call, .string r.parts] 48)).alloc (.cells #[.string r.name] 9)).heap.size = w3.heap.size + 1 + 1 by simp] at this
    exact this
  go_loopw [9] (fun v wr => ∃ pos : Nat, pos ≤ r.parts.size ∧ wr.ownsRow (w3.heap.size + 1) 9 1 v (pos + 1) ((wordL r i pos).map Value.string) ∧ wr.heap[w.heap.size]? = some (.cells i.cells 23 (0, 0)) ∧ wr.heap[w3.heap.size + 1 + 1]? = some (.stringIter r.parts pos) ∧ Below w.heap.size w wr) (fun _ wr => r.parts.size - wr.iterPos (w3.heap.size + 1 + 1))
  case atStart => exact ⟨0, by omega, LW.out, L0.out, LI.out, LB.out⟩
  case round =>
    obtain ⟨pos, hpos, how, h0, hi, hb⟩ := hrel
    have HO := hideC how
    have H0 := hideC h0
    have HI := hideC hi
    have HB := hideC hb
    clear how h0 hb LW L0 LB LI
    by_cases hp : pos < r.parts.size
    · have hnx : ∀ ty, (Instr.next (.pointer (some ⟨w3.heap.size + 1 + 1, 0, none⟩)) true ty).run Tryd.prog wr = .ok (.tuple #[.bool true, .int .i64 pos, .int .i32 (letAt r.parts pos)]) (wr.iterAt (w3.heap.size + 1 + 1) r.parts (pos + 1)) := fun ty => by
        rw [← letAt_eq _ _ hp]
        exact Lib.run_next_ascii_at wr _ _ _ ty hi hp (HRA.out pos hp)
      obtain ⟨W2, hW2⟩ : ∃ W2, W2 = wr.iterAt (w3.heap.size + 1 + 1) r.parts (pos + 1) := ⟨_, rfl⟩
      have GO : Hid (W2.ownsRow (w3.heap.size + 1) 9 1 u9 (pos + 1) ((wordL r i pos).map Value.string)) := by rw [hW2]; exact own_iter HO.out HI.out
      have G0 : Hid (W2.heap[w.heap.size]? = some (.cells i.cells 23 (0, 0))) := by rw [hW2]; exact (Lib.iterAt_other _ _ _ _ _ (by omega)).trans H0.out
      have GI : Hid (W2.heap[w3.heap.size + 1 + 1]? = some (.stringIter r.parts (pos + 1))) := by rw [hW2]; exact Lib.iterAt_heap _ _ _ _ _ HI.out
      have GB : Hid (Below w.heap.size w W2) := by rw [hW2]; exact iter_below HB.out (by omega) _ _
      rw [← hW2] at hnx
      clear hW2 hi
      have HWS := hideC (wordL_succ r i pos)
      have hpi := partL_i64 r i HF.out pos
      have hPe : partL r i pos = getL i (letIx (letAt r.parts pos)) := rfl
      have hL5 := letIx_lt (letAt r.parts pos)
      have FD := hideC (fun b => field_any b (letAt r.parts pos))
      obtain ⟨P, hP⟩ : ∃ P, P = partL r i pos := ⟨_, rfl⟩
      rw [← hP] at HWS hpi hPe
      clear hP
      obtain ⟨c, hc⟩ : ∃ c, c = letAt r.parts pos := ⟨_, rfl⟩
      rw [← hc] at hnx hPe hL5 FD
      clear hc
      obtain ⟨L, hL⟩ : ∃ L, L = letIx c := ⟨_, rfl⟩
      rw [← hL] at hPe hL5 FD
      clear hL
      have a1 : W2.cell? ⟨w.heap.size, L, none⟩ = some (.int .i64 P) := by rw [hPe]; exact B.cell G0.out L (cells_get i L hL5)
      clear hPe
      have HIT := hideC (itoa_any P hpi W2 tb o cap (HL.out.below GB.out))
      obtain ⟨D, hD⟩ : ∃ D, D = itoaS P := ⟨_, rfl⟩
      rw [← hD] at HIT HWS
      clear hD hpi
      go_wp2_with (first
        | (go_at_call 20; refine (FD.out _ _).mono ?_; rintro e w' ⟨rfl, rfl⟩)
        | (go_at_call 19; refine HIT.out.mono ?_; rintro e w4 ⟨rfl, hb4⟩; have Q0 := hideC (B.below G0.out hb4 (B.isLt G0.out)); have QI := hideC (B.below GI.out hb4 (B.isLt GI.out)); have QO := hideC (own_below GO.out hb4); have QB := hideC (add_below GB.out hb4); clear hb4)
        | (at_builtin; refine wpList_append_own _ rfl _ _ 50 rfl (w3.heap.size + 1) 9 i0 (.string ByteArray.empty) 1 16 Tryd.underlying50 hi0 hz0 hz1 hz2 rfl (by decide) _ _ _ rfl (QO.out.alloc _) ⟨w4.heap.size, 0, none⟩ 1 1 [.string D] rfl rfl (cell_one_new _ _ _) (by simp [Value.oneCell']) (by unfold maxLen; omega) (by omega) (by have := B.isLt QI.out; simp; omega) ?_; intro v5 w5 ho5 hg5 _; replace hg5 : (w4.alloc (.cells #[.string D] 9)).grownBy w5 u9.ownBlock := hg5))
      have GG := hideC hg5
      have GH := hideC ho5
      clear hg5 ho5
      have NI := own_ne QO.out QI.out
      have N0 := own_ne_low QO.out (K := w.heap.size) (by omega)
      have R0 := hideC (B.grown (B.alloc Q0.out _) GG.out N0)
      have RI := hideC (B.grown (B.alloc QI.out _) GG.out NI)
      have RB := hideC ((QB.out.alloc QB.out.size _).grown GG.out (by have := QB.out.size; simp; omega) (fun k hk => by have := own_base QO.out k hk; omega))
      clear NI N0
      go_roundw
      case rel => exact ⟨pos + 1, by omega, by rw [HWS.out, List.map_append]; exact GH.out, R0.out, RI.out, RB.out⟩
      case measure =>
        rw [iterPos_of RI.out, iterPos_of HI.out]
        omega
    · obtain rfl : pos = r.parts.size := by omega
      have hnx : ∀ ty, (Instr.next (.pointer (some ⟨w3.heap.size + 1 + 1, 0, none⟩)) true ty).run Tryd.prog wr = .ok (.tuple #[.bool false]) wr := fun ty => Lib.run_next_end_at wr _ _ _ ty hi hp
      obtain ⟨g, cp, hv, hbg, hglt, hcap, hcs⟩ := own_cells HO.out (by omega)
      have HJ : Hid (Calls Tryd.prog 21 #[.slice (some ⟨g, 0, none⟩) (r.parts.size + 1) cp, .string ⟨#[32]⟩] wr fun e w' => e = .returned (.string S) ∧ Below wr.heap.size wr w') := by
        have hlw := wordL_length r i r.parts.size
        have hh := Tryd.strings_Join g 0 cp (wordL r i r.parts.size) ⟨#[32]⟩ wr (fun j x hx => hcs j (.string x) (by rw [List.getElem?_map, hx]; rfl)) hglt (by rw [hlw]; omega) (by rw [hlw]; exact hcap) (join_len r i HF.out (by omega) (by omega))
        rw [hlw] at hh
        have e1 : (⟨(Lib.join ((wordL r i r.parts.size).map (·.data.toList)) (⟨#[32]⟩ : ByteArray).data.toList).toArray⟩ : ByteArray) = S := (show_eq r i).trans HS.out.symm
        rw [e1] at hh
        exact hh
      rw [hv]
      clear hv hbg hglt hcap hcs hi
      go_wp2_with (go_at_call 21; refine HJ.out.mono ?_; rintro e w6 ⟨rfl, hb6⟩; have HB6 := hideC (add_below HB.out hb6); clear hb6)
      go_ret2
      exact ⟨rfl, HB6.out⟩
end Go.Proofs.YtklobjfhjlkgfaaDoor.TW
/- The program's guess: what it answers; the contracts that it leans on. -/
namespace Go.Proofs.YtklobjfhjlkgfaaDoor.TW
open Go.RowKit
set_option linter.unusedVariables false
set_option maxRecDepth 100000
set_option linter.unusedSimpArgs false

/-- the words of a line, seven at most -/
def splitW (s : ByteArray) : List ByteArray := Lib.splitB ⟨#[32]⟩ 0 (min 7 (s.size + 1) - 1) s
theorem splitB_pos (sep : ByteArray) (sv : Nat) : ∀ (k : Nat) (s : ByteArray), 1 ≤ (Lib.splitB sep sv k s).length
  | 0, s => Nat.le_refl _
  | k + 1, s => by
    unfold Lib.splitB
    split
    · exact Nat.le_refl _
    · simp
theorem splitW_pos (s : ByteArray) : 1 ≤ (splitW s).length := splitB_pos _ _ _ _
theorem splitW_le (s : ByteArray) : (splitW s).length ≤ 7 := by
  have := Lib.splitB_length_le ⟨#[32]⟩ 0 (min 7 (s.size + 1) - 1) s
  unfold splitW
  omega
theorem splitB_size (sep : ByteArray) : ∀ (k : Nat) (s x : ByteArray), x ∈ Lib.splitB sep 0 k s → x.size ≤ s.size
  | 0, s, x, h => by
    have : x = s := by simpa [Lib.splitB] using h
    rw [this]; exact Nat.le_refl _
  | k + 1, s, x, h => by
    unfold Lib.splitB at h
    split at h
    · have : x = s := by simpa using h
      rw [this]; exact Nat.le_refl _
    · rcases List.mem_cons.1 h with h | h
      · rw [h, ByteArray.size_extract]; omega
      · have := splitB_size sep k _ x h
        rw [ByteArray.size_extract] at this
        omega
def wordAt (s : ByteArray) (k : Nat) : ByteArray := (splitW s).getD k ByteArray.empty
theorem wordAt_size (s : ByteArray) (k : Nat) : (wordAt s k).size ≤ s.size := by
  unfold wordAt
  rw [List.getD_eq_getElem?_getD]
  cases e : (splitW s)[k]? with
  | none => exact Nat.zero_le _
  | some x => exact splitB_size _ _ _ _ (List.mem_of_getElem? e)
def guessTo (r : Row) (s : ByteArray) : Nat → Option PM.Ins
  | 0 => some r.blank
  | k + 1 => match guessTo r s k with
    | none => none
    | some i => match Lib.atoiAll (wordAt s (1 + k)).data.toList with
      | .ok v => some (setL i (letIx (letAt r.parts k)) v)
      | _ => none
def guessN (s : ByteArray) : Option PM.Ins :=
  if lookB (wordAt s 0) = true ∧ (splitW s).length = (lookR (wordAt s 0)).parts.size + 1 then guessTo (lookR (wordAt s 0)) s (lookR (wordAt s 0)).parts.size else none
theorem guessTo_none {r : Row} {s : ByteArray} {k : Nat} (h : guessTo r s k = none) : ∀ n, k ≤ n → guessTo r s n = none
  | 0, hn => by obtain rfl : k = 0 := by omega
                exact h
  | n + 1, hn => by
    by_cases e : k = n + 1
    · subst e; exact h
    · rw [guessTo, guessTo_none h n (by omega)]
def zeroI : PM.Ins := ⟨0, 0, 0, 0, 0⟩
/-- what guess answers, as two values -/
def outG : Option PM.Ins → PM.Ins × Bool
  | none => (zeroI, false)
  | some i => (i, true)
theorem look_in (s : ByteArray) : ∃ k, lookR s = rowAt k := by
  have : ∀ n, ∃ k, (lookTo s n).getD noRow = rowAt k := by
    intro n
    induction n with
    | zero => exact ⟨22, rfl⟩
    | succ n ih =>
      unfold lookTo
      split
      · exact ⟨n, rfl⟩
      · exact ih
  exact this 22
theorem split_any (s : ByteArray) (w : World) (tb o cap : Nat) (hl : Lay tb o cap w) (hs : s.size < 4294967281) : Calls Tryd.prog 45 #[.string s, .string ⟨#[32]⟩, .int .i64 7] w fun e w' => ∃ b c, e = .returned (.slice (some ⟨b, 0, none⟩) (splitW s).length c) ∧ (∀ j, j < (splitW s).length → w'.cell? ⟨b, j, none⟩ = some (.string (wordAt s j))) ∧ b < w'.heap.size ∧ Below w.heap.size w w' := by
  obtain ⟨m, hm⟩ := hl.ml
  refine (Tryd.strings_SplitN s ⟨#[32]⟩ 7 m w hs hm (by decide) (by omega) (by omega)).mono ?_
  rintro e w' ⟨rfl, rfl⟩
  refine ⟨w.heap.size, min 7 (s.size + 1), rfl, fun j hj => ?_, by simp, (Below.refl _ _).alloc (Nat.le_refl _) _⟩
  refine B.cell (B.new w _ _) j ?_
  have hj2 : j < ((splitW s).map Value.string).length := by simpa using hj
  show ((((splitW s).map Value.string) ++ List.replicate (min 7 (s.size + 1) - (splitW s).length) (Value.string ByteArray.empty)).toArray)[j]? = _
  rw [List.getElem?_toArray, List.getElem?_append_left hj2, List.getElem?_map]
  unfold wordAt
  rw [List.getD_eq_getElem?_getD, List.getElem?_eq_getElem hj]
  rfl
theorem atoi_ok (s : ByteArray) (v : Int) (w : World) (h : Lib.atoiAll s.data.toList = .ok v) (hs : s.size ≤ 4294967281) : Calls Tryd.prog 48 #[.string s] w fun e w' => e = .returned (.tuple #[.int .i64 v, .nilIface]) ∧ Below w.heap.size w w' := by
  refine (Tryd.strconv_Atoi_ok s (by omega) v h w).mono ?_
  rintro e w' ⟨rfl, hw⟩
  refine ⟨rfl, ?_⟩
  rcases hw with rfl | ⟨t, rfl⟩
  · exact Below.refl _ _
  · exact Lib.bytesWorld_below w _ t
theorem atoi_no (s : ByteArray) (w : World) (tb o cap : Nat) (hl : Lay tb o cap w) (h : ∀ v, Lib.atoiAll s.data.toList ≠ .ok v) (hs : s.size ≤ 4294967281) : Calls Tryd.prog 48 #[.string s] w fun e w' => ∃ v N, e = .returned (.tuple #[.int .i64 v, .iface 116 (.pointer (some ⟨N, 0, none⟩))]) ∧ Below w.heap.size w w' := by
  cases e : Lib.atoiAll s.data.toList with
  | ok v => exact (h v e).elim
  | «syntax» =>
    obtain ⟨ev, h1, h2⟩ := hl.es
    refine (Tryd.strconv_Atoi_syntax s (by omega) e ev w h1 h2).mono ?_
    rintro e w' ⟨N, rfl, _, _, hb⟩
    exact ⟨_, N, rfl, hb⟩
  | range =>
    obtain ⟨ev, h1, h2⟩ := hl.er
    refine (Tryd.strconv_Atoi_range s (by omega) e ev w h1 h2).mono ?_
    rintro e w' ⟨N, rfl, _, _, hb⟩
    exact ⟨_, N, rfl, hb⟩
end Go.Proofs.YtklobjfhjlkgfaaDoor.TW
