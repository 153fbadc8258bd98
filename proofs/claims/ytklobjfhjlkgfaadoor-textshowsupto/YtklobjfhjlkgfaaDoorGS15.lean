import Derived.Test.YtklobjfhjlkgfaaDoorGS13
import Derived.Test.YtklobjfhjlkgfaaDoorGS14
/- Plain: lines and bytes are each other's way back. -/
namespace Go.Proofs.YtklobjfhjlkgfaaDoor.TW
open Go.RowKit
set_option linter.unusedVariables false
set_option maxRecDepth 100000
set_option linter.unusedSimpArgs false

theorem byte_cases (c : UInt8) : ∀ l : List UInt8, NoB c l ∨ ∃ a b, l = a ++ c :: b ∧ NoB c a
  | [] => .inl (fun x hx => by cases hx)
  | x :: l => by
    by_cases e : x = c
    · exact .inr ⟨[], l, by rw [e]; rfl, fun y hy => by cases hy⟩
    · rcases byte_cases c l with h | ⟨a, b, h1, h2⟩
      · refine .inl (fun y hy => ?_)
        rcases List.mem_cons.1 hy with rfl | hy
        · exact e
        · exact h y hy
      · refine .inr ⟨x :: a, b, by rw [h1]; rfl, fun y hy => ?_⟩
        rcases List.mem_cons.1 hy with rfl | hy
        · exact e
        · exact h2 y hy
theorem cut_no (l : List UInt8) (h : NoB 10 l) : Lib.cut l [10] = (l, [], false) := by
  unfold Lib.cut
  rw [index_no 10 l h, if_neg (by omega)]
theorem cut_at (a b : List UInt8) (h : NoB 10 a) : Lib.cut (a ++ 10 :: b) [10] = (a, b, true) := by
  unfold Lib.cut
  rw [index_at 10 b a h, if_pos (by omega)]
  have h1 : ((a.length : Int)).toNat = a.length := by omega
  rw [h1]
  congr 1
  · simp
  · congr 1
    rw [List.drop_append]
    simp
/-- the text of a line and what is behind it -/
theorem end_split (s : ByteArray) (h : endN s = true) : s.data.toList = (lineN s).data.toList ++ 10 :: (restN s).data.toList ∧ NoB 10 (lineN s).data.toList := by
  unfold endN at h
  rcases byte_cases 10 s.data.toList with hn | ⟨a, b, hs, hn⟩
  · rw [cut_no _ hn] at h
    cases h
  · have e1 : (lineN s).data.toList = a := by
      unfold lineN
      rw [hs, cut_at a b hn]
    have e2 : (restN s).data.toList = b := by
      unfold restN
      rw [hs, cut_at a b hn]
    rw [e1, e2]
    exact ⟨hs, hn⟩
theorem end_no (s : ByteArray) (h : endN s = false) : NoB 10 s.data.toList := by
  unfold endN at h
  rcases byte_cases 10 s.data.toList with hn | ⟨a, b, hs, hn⟩
  · exact hn
  · rw [hs, cut_at a b hn] at h
    cases h
/-- the lines of instructions -/
def linesL : List PM.Ins → List UInt8
  | [] => []
  | i :: l => (showN i).data.toList ++ 10 :: linesL l
theorem linesL_append : ∀ a b : List PM.Ins, linesL (a ++ b) = linesL a ++ linesL b
  | [], b => rfl
  | i :: a, b => by
    show (showN i).data.toList ++ 10 :: linesL (a ++ b) = _
    rw [linesL_append a b]
    simp [linesL]
theorem show_no10 (i : PM.Ins) : NoB 10 (showN i).data.toList := by
  obtain ⟨k, hk, hr, ht⟩ := rowOf_tells i i.bad
  rw [show_list i (rowAt k) hr]
  have : ∀ (r : List (List UInt8)) (x : List UInt8), NoB 10 x → (∀ y ∈ r, NoB 10 y) → NoB 10 (Lib.join (x :: r) [32]) := by
    intro r
    induction r with
    | nil => intro x hx _; rw [Lib.join_one]; exact hx
    | cons y r ih =>
      intro x hx hr
      rw [Lib.join_cons, tail_cons]
      have h2 := ih y (hr y List.mem_cons_self) (fun z hz => hr z (List.mem_cons_of_mem _ hz))
      intro z hz
      rcases List.mem_append.1 hz with hz | hz
      · exact hx z hz
      · rcases List.mem_append.1 hz with hz | hz
        · obtain rfl := List.mem_singleton.1 hz
          decide
        · exact h2 z hz
  refine this _ _ (fun x hx => (row_noB k x hx).2) ?_
  intro y hy
  rw [List.map_map] at hy
  obtain ⟨j, _, rfl⟩ := List.mem_map.1 hy
  show NoB 10 (itoaS (partL (rowAt k) i j)).data.toList
  have e : (itoaS (partL (rowAt k) i j)).data.toList = Lib.itoa (partL (rowAt k) i j) := by unfold itoaS; simp
  rw [e]
  exact itoa_no _ 10 (by decide)
theorem count_no (l : List UInt8) (h : NoB 10 l) : l.count 10 = 0 := List.count_eq_zero.2 (fun hm => h 10 hm rfl)
/-- what was assembled is the lines of what was read -/
theorem asm_lines : ∀ (n : Nat) (p : ByteArray) (l : List PM.Ins), asmTo n p = some l → p.data.toList = linesL l ∧ p.data.toList.count 10 = l.length ∧ ∀ i ∈ l, i.fits
  | 0, p, l, h => by cases h
  | n + 1, p, l, h => by
    cases he : endN p with
    | false =>
      rw [asm_end he] at h
      split at h
      · rename_i hz
        injection h with h
        subst h
        have : p.data.toList = [] := by rw [Lib.size_eq] at hz; exact List.length_eq_zero_iff.1 hz
        rw [this]
        exact ⟨rfl, rfl, fun i hi => by cases hi⟩
      · cases h
    | true =>
      obtain ⟨h1, h2⟩ := end_split p he
      cases hr : readN (lineN p) with
      | none => rw [asm_bad he hr] at h; cases h
      | some i =>
        rw [asm_step he hr] at h
        cases hq : asmTo n (restN p) with
        | none => rw [hq] at h; cases h
        | some q =>
          rw [hq] at h
          injection h with h
          subst h
          obtain ⟨g1, g2, g3⟩ := asm_lines n (restN p) q hq
          obtain ⟨hf, hs⟩ := read_fits hr
          refine ⟨?_, ?_, ?_⟩
          · rw [h1, g1]
            show _ = (showN i).data.toList ++ 10 :: linesL q
            rw [hs]
          · rw [h1, List.count_append, count_no _ h2, List.count_cons, g2]
            simp
          · intro j hj
            rcases List.mem_cons.1 hj with rfl | hj
            · exact hf
            · exact g3 j hj
/-- the lines of instructions are read as they were -/
theorem asm_of_lines : ∀ (l : List PM.Ins), (∀ i ∈ l, i.fits) → ∀ (n : Nat) (s : ByteArray), s.data.toList = linesL l → l.length < n → asmTo n s = some l
  | [], _, 0, s, hs, hn => by simp at hn
  | [], _, n + 1, s, hs, hn => by
    have he : endN s = false := by unfold endN; rw [hs]; rfl
    have hz : s.size = 0 := by rw [Lib.size_eq, hs]; rfl
    rw [asm_end he, if_pos hz]
  | i :: l, hf, 0, s, hs, hn => by simp at hn
  | i :: l, hf, n + 1, s, hs, hn => by
    have hs2 : s.data.toList = (showN i).data.toList ++ 10 :: linesL l := hs
    have hcut := cut_at _ (linesL l) (show_no10 i)
    rw [← hs2] at hcut
    have he : endN s = true := by unfold endN; rw [hcut]
    have hl : lineN s = showN i := by unfold lineN; rw [hcut]
    have hr : (restN s).data.toList = linesL l := by unfold restN; rw [hcut]
    rw [asm_step he (by rw [hl]; exact read_show i (hf i List.mem_cons_self)), asm_of_lines l (fun j hj => hf j (List.mem_cons_of_mem _ hj)) n (restN s) hr (by simp at hn; omega)]
    rfl
theorem code_size : ∀ l : List PM.Ins, (codeOf l).size = 8 * l.length
  | [] => rfl
  | i :: l => by
    show (i.bytes ++ codeOf l).size = _
    rw [ByteArray.size_append, PM.bytes_size, code_size l]
    simp
    omega
theorem code_data (i : PM.Ins) (l : List PM.Ins) : (codeOf (i :: l)).data.toList = i.bytes.data.toList ++ (codeOf l).data.toList := by
  show ((i.bytes ++ codeOf l).data).toList = _
  rw [ByteArray.data_append]
  simp
/-- the k-th eight bytes -/
theorem code_chunk : ∀ (l : List PM.Ins) (k : Nat) (i : PM.Ins), l[k]? = some i → chunk (codeOf l) k = i.bytes
  | [], k, i, h => by simp at h
  | j :: l, 0, i, h => by
    have e : j = i := by simpa using h
    subst e
    apply str_data
    unfold chunk
    rw [Lib.extract_data, code_data]
    have : j.bytes.data.toList.length = 8 := by rw [← Lib.size_eq]; exact PM.bytes_size j
    simp [this]
  | j :: l, k + 1, i, h => by
    have h2 : l[k]? = some i := by simpa using h
    have ih := code_chunk l k i h2
    rw [← ih]
    apply str_data
    unfold chunk
    rw [Lib.extract_data, Lib.extract_data, code_data]
    have h8 : j.bytes.data.toList.length = 8 := by rw [← Lib.size_eq]; exact PM.bytes_size j
    have e1 : 8 * (k + 1) = 8 + 8 * k := by omega
    rw [e1, List.drop_append, h8]
    have e2 : 8 + 8 * k - 8 = 8 * k := by omega
    have e3 : j.bytes.data.toList.drop (8 + 8 * k) = [] := List.drop_eq_nil_of_le (by omega)
    have e4 : 8 + 8 * k + 8 - (8 + 8 * k) = 8 * k + 8 - 8 * k := by omega
    rw [e2, e3, e4]
    rfl
theorem list_code (l : List PM.Ins) (hf : ∀ i ∈ l, i.fits) : ∀ k, k ≤ l.length → (listTo (codeOf l) k).data.toList = linesL (l.take k)
  | 0, _ => by rw [List.take_zero]; rfl
  | k + 1, hk => by
    have ih := list_code l hf k (by omega)
    have hk2 : k < l.length := by omega
    have hi : l[k]? = some l[k] := List.getElem?_eq_getElem hk2
    have hm : l[k] ∈ l := List.getElem_mem hk2
    show ((listTo (codeOf l) k ++ (showN (PM.ins (chunk (codeOf l) k)) ++ nl)).data).toList = _
    rw [code_chunk l k _ hi, PM.ins_bytes _ (hf _ hm), ByteArray.data_append, ByteArray.data_append, Array.toList_append, Array.toList_append, ih, List.take_succ_eq_append_getElem hk2, linesL_append]
    rfl
/-- List of what Assemble made is the text -/
theorem list_asm (p : ByteArray) (h : (asmN p).2 = 0) : listN (asmN p).1 = (p, 0) := by
  unfold asmN at h ⊢
  by_cases hc : 512 < Lib.countByte p.data.toList 10
  · rw [if_pos hc] at h; cases h
  · rw [if_neg hc] at h ⊢
    cases ha : asmTo (p.size + 1) p with
    | none => rw [ha] at h; cases h
    | some l =>
      simp only
      obtain ⟨h1, h2, h3⟩ := asm_lines _ _ _ ha
      have hl : l.length ≤ 512 := by
        have : Lib.countByte p.data.toList 10 = l.length := h2
        omega
      have hz := code_size l
      unfold listN
      rw [if_neg (by omega), if_neg (by omega)]
      have e : (codeOf l).size / 8 = l.length := by omega
      rw [e]
      congr 1
      apply str_data
      rw [list_code l h3 l.length (Nat.le_refl _), List.take_length, h1]
/-- the instructions of bytes -/
def insL (b : ByteArray) (k : Nat) : List PM.Ins := (List.range k).map fun j => PM.ins (chunk b j)
theorem insL_succ (b : ByteArray) (k : Nat) : insL b (k + 1) = insL b k ++ [PM.ins (chunk b k)] := by
  unfold insL
  rw [List.range_succ, List.map_append]
  rfl
theorem list_lines (b : ByteArray) : ∀ k, (listTo b k).data.toList = linesL (insL b k)
  | 0 => rfl
  | k + 1 => by
    show ((listTo b k ++ (showN (PM.ins (chunk b k)) ++ nl)).data).toList = _
    rw [insL_succ, linesL_append, ByteArray.data_append, ByteArray.data_append, Array.toList_append, Array.toList_append, list_lines b k]
    rfl
theorem codeOf_append : ∀ a b : List PM.Ins, (codeOf (a ++ b)).data.toList = (codeOf a).data.toList ++ (codeOf b).data.toList
  | [], b => rfl
  | i :: a, b => by
    show (codeOf (i :: (a ++ b))).data.toList = _
    rw [code_data, code_data, codeOf_append a b, List.append_assoc]
theorem code_insL (b : ByteArray) : ∀ k, 8 * k ≤ b.size → (codeOf (insL b k)).data.toList = b.data.toList.take (8 * k)
  | 0, _ => by rw [Nat.mul_zero, List.take_zero]; rfl
  | k + 1, h => by
    have h8 := chunk_size b k (by omega)
    rw [insL_succ, codeOf_append, code_insL b k (by omega)]
    have e : (codeOf [PM.ins (chunk b k)]).data.toList = (b.data.toList.drop (8 * k)).take 8 := by
      rw [code_data, PM.bytes_ins _ h8]
      unfold chunk
      rw [Lib.extract_data]
      have : 8 * k + 8 - 8 * k = 8 := by omega
      rw [this]
      show _ ++ [] = _
      rw [List.append_nil]
    rw [e, ← List.take_add]
    congr 1
theorem lines_count : ∀ l : List PM.Ins, (linesL l).count 10 = l.length
  | [] => rfl
  | i :: l => by
    show ((showN i).data.toList ++ 10 :: linesL l).count 10 = _
    rw [List.count_append, count_no _ (show_no10 i), List.count_cons, lines_count l]
    simp
/-- Assemble of what List made is the bytes -/
theorem asm_list (b : ByteArray) (h : (listN b).2 = 0) : asmN (listN b).1 = (b, 0) := by
  unfold listN at h ⊢
  by_cases h1 : 512 < b.size / 8
  · rw [if_pos h1] at h; cases h
  · rw [if_neg h1] at h ⊢
    by_cases h2 : b.size % 8 ≠ 0
    · rw [if_pos h2] at h; cases h
    · rw [if_neg h2]
      simp only
      have hK : b.size = 8 * (b.size / 8) := by omega
      obtain ⟨K, hKe⟩ : ∃ K, K = b.size / 8 := ⟨_, rfl⟩
      rw [← hKe] at hK h1 ⊢
      have hfl : ∀ i ∈ insL b K, i.fits := by
        intro i hi
        unfold insL at hi
        obtain ⟨j, hj, rfl⟩ := List.mem_map.1 hi
        exact PM.ins_fits _ (chunk_size b j (by have := List.mem_range.1 hj; omega))
      have hll := list_lines b K
      have hlen : (insL b K).length = K := by simp [insL]
      have hcount : Lib.countByte (listTo b K).data.toList 10 = K := by
        show List.count 10 _ = _
        rw [hll, lines_count, hlen]
      have hge : K ≤ (listTo b K).size := by
        rw [Lib.size_eq]
        have : List.count 10 (listTo b K).data.toList ≤ (listTo b K).data.toList.length := List.count_le_length
        have h3 : List.count 10 (listTo b K).data.toList = K := hcount
        omega
      have ha := asm_of_lines (insL b K) hfl ((listTo b K).size + 1) (listTo b K) hll (by omega)
      unfold asmN
      rw [hcount, if_neg (by omega), ha]
      simp only
      congr 1
      apply str_data
      rw [code_insL b K (by omega)]
      apply List.take_of_length_le
      rw [← Lib.size_eq]
      omega
end Go.Proofs.YtklobjfhjlkgfaaDoor.TW
/- textBegun: what must be in any case. -/
namespace Go.Proofs.YtklobjfhjlkgfaaDoor.TW
open Go.RowKit
set_option linter.unusedVariables false
set_option maxRecDepth 100000
set_option linter.unusedSimpArgs false

def iLoad : PM.Ins := ⟨9, 1, 2, 8, -4⟩
def iExit : PM.Ins := ⟨16, 0, 0, 0, 6⟩
def iSet : PM.Ins := ⟨1, 0, 0, 0, 5⟩
def iOut : PM.Ins := ⟨16, 0, 0, 0, 1⟩
theorem fits_iLoad : iLoad.fits := by unfold iLoad PM.Ins.fits PM.Byt; decide
theorem fits_iExit : iExit.fits := by unfold iExit PM.Ins.fits PM.Byt; decide
theorem fits_iSet : iSet.fits := by unfold iSet PM.Ins.fits PM.Byt; decide
theorem fits_iOut : iOut.fits := by unfold iOut PM.Ins.fits PM.Byt; decide
theorem itoa_small (k : Nat) (h : k < 10) : Lib.itoa (k : Int) = [UInt8.ofNat (48 + k)] := by
  unfold Lib.itoa
  rw [if_neg (by omega), Int.toNat_natCast, Lib.decDigits, dif_pos h]
theorem itoaS_small (k : Nat) (h : k < 10) : itoaS (k : Int) = ⟨#[UInt8.ofNat (48 + k)]⟩ := by rw [itoaS_pos, decS_small k h]
theorem show_load : showN iLoad = ⟨#[108, 111, 97, 100, 32, 49, 32, 50, 32, 45, 52, 32, 56]⟩ := by
  have hb : iLoad.bad = false := rfl
  rw [show_by iLoad 11 hb (by_11 1 2 8 (-4)), nums_11]
  have h1 : itoaS 1 = ⟨#[49]⟩ := itoaS_small 1 (by omega)
  have h2 : itoaS 2 = ⟨#[50]⟩ := itoaS_small 2 (by omega)
  have h8 : itoaS 8 = ⟨#[56]⟩ := itoaS_small 8 (by omega)
  have h4 : itoaS (-4) = ⟨#[45, 52]⟩ := by
    rw [show (-4 : Int) = -((4 : Nat) : Int) by rfl, itoaS_neg 4 (by omega), decS_small 4 (by omega)]
    rfl
  show ((((((((rowAt 11).name ++ blank) ++ itoaS 1) ++ blank) ++ itoaS 2) ++ blank) ++ itoaS (-4)) ++ blank) ++ itoaS 8 = _
  rw [h1, h2, h4, h8]
  rfl
theorem show_exit : showN iExit = ⟨#[101, 120, 105, 116]⟩ := by
  have hb : iExit.bad = false := rfl
  rw [show_by iExit 20 hb by_20, nums_20]
  rfl
theorem show_out : showN iOut = ⟨#[111, 117, 116]⟩ := by
  have hb : iOut.bad = false := rfl
  rw [show_by iOut 15 hb by_15, nums_15]
  rfl
theorem show_set : showN iSet = ⟨#[115, 101, 116, 32, 48, 32, 53]⟩ := by
  have hb : iSet.bad = false := rfl
  rw [show_by iSet 0 hb (by_0 0 5), nums_0]
  have h0 : itoaS 0 = ⟨#[48]⟩ := itoaS_small 0 (by omega)
  have h5 : itoaS 5 = ⟨#[53]⟩ := itoaS_small 5 (by omega)
  show ((((rowAt 0).name ++ blank) ++ itoaS 0) ++ blank) ++ itoaS 5 = _
  rw [h0, h5]
  rfl
def twoS : ByteArray := ⟨#[115, 101, 116, 32, 48, 32, 53, 10, 111, 117, 116, 10]⟩
theorem two_lines : twoS.data.toList = linesL [iSet, iOut] := by
  show _ = (showN iSet).data.toList ++ 10 :: ((showN iOut).data.toList ++ 10 :: [])
  rw [show_set, show_out]
  rfl
theorem asm_two : asmN twoS = (codeOf [iSet, iOut], 0) := by
  have h := asm_of_lines [iSet, iOut] (fun i hi => by
    simp only [List.mem_cons, List.not_mem_nil, or_false] at hi
    rcases hi with rfl | rfl
    · exact fits_iSet
    · exact fits_iOut) (twoS.size + 1) twoS two_lines (by decide)
  unfold asmN
  rw [if_neg (by decide), h]
theorem list_two : listN (codeOf [iSet, iOut]) = (twoS, 0) := by
  have h := list_asm twoS (by rw [asm_two])
  rw [asm_two] at h
  exact h
theorem code_two : (codeOf [iSet, iOut]).size = 16 := code_size _
set_option maxHeartbeats 4000000 in
theorem begun_any (w : World) (tb o cap : Nat) (hl : Lay tb o cap w) : Calls Tryd.prog 11 #[] w fun e w' => e = .returned (.bool true) ∧ Below w.heap.size w w' := by
  have HL := hideC hl
  have HS : Hid (∀ V, Lay tb o cap V → Calls Tryd.prog 6 #[.agg #[.int .i64 9, .int .i64 1, .int .i64 2, .int .i64 8, .int .i64 (-4)]] V fun e w' => e = .returned (.tuple #[.string ⟨#[108, 111, 97, 100, 32, 49, 32, 50, 32, 45, 52, 32, 56]⟩, .int .i64 0]) ∧ Below V.heap.size V w') := fun V hV => by
    have h := show_yes iLoad V tb o cap hV fits_iLoad
    rw [show_load] at h
    exact h
  have HR : Hid (∀ V, Lay tb o cap V → Calls Tryd.prog 9 #[.string ⟨#[101, 120, 105, 116]⟩] V fun e w' => e = .returned (.tuple #[.agg #[.int .i64 16, .int .i64 0, .int .i64 0, .int .i64 0, .int .i64 6], .int .i64 0]) ∧ Below V.heap.size V w') := fun V hV => by
    have h := read_any (showN iExit) V tb o cap hV (by rw [show_exit]; decide)
    rw [read_show iExit fits_iExit, show_exit] at h
    exact h
  have HA : Hid (∀ V, Lay tb o cap V → Calls Tryd.prog 12 #[.string ⟨#[115, 101, 116, 32, 48, 32, 53, 10, 111, 117, 116, 10]⟩] V fun e w' => e = .returned (.tuple #[.string (codeOf [iSet, iOut]), .int .i64 0]) ∧ Below V.heap.size V w') := fun V hV => by
    have h := asm_any twoS V tb o cap hV (by decide)
    rw [asm_two] at h
    exact h
  have HI : Hid (∀ V, Lay tb o cap V → Calls Tryd.prog 13 #[.string (codeOf [iSet, iOut])] V fun e w' => e = .returned (.tuple #[.string ⟨#[115, 101, 116, 32, 48, 32, 53, 10, 111, 117, 116, 10]⟩, .int .i64 0]) ∧ Below V.heap.size V w') := fun V hV => by
    have h := list_any (codeOf [iSet, iOut]) V tb o cap hV (by rw [code_two]; decide)
    rw [list_two] at h
    exact h
  have hcz := code_two
  obtain ⟨C, hC⟩ : ∃ C, C = codeOf [iSet, iOut] := ⟨_, rfl⟩
  rw [← hC] at HA HI hcz
  clear hC hl
  go_enter Tryd.func11, Tryd.ntmps11
  go_wp2_with (first
    | (go_at_call 6; refine (HS.out _ HL.out).mono ?_; rintro e w1 ⟨rfl, hb1⟩; have HB1 := hideC hb1; clear hb1)
    | (go_at_call 9; refine (HR.out _ (HL.out.below HB1.out)).mono ?_; rintro e w2 ⟨rfl, hb2⟩; have HB2 := hideC (add_below HB1.out hb2); clear hb2; have Y2 := hideC (B.new w2 #[.int .i64 16, .int .i64 0, .int .i64 0, .int .i64 0, .int .i64 6] 23))
    | (go_at_call 12; refine (HA.out _ (HL.out.below (HB2.out.alloc HB2.out.size _))).mono ?_; rintro e w3 ⟨rfl, hb3⟩; have Y3 := hideC (B.below Y2.out hb3 (B.isLt Y2.out)); have HB3 := hideC (add_below (HB2.out.alloc HB2.out.size _) hb3); clear hb3)
    | (go_at_call 13; refine (HI.out _ (HL.out.below HB3.out)).mono ?_; rintro e w4 ⟨rfl, hb4⟩; have Y4 := hideC (B.below Y3.out hb4 (B.isLt Y3.out)); have HB4 := hideC (add_below HB3.out hb4); clear hb4; have y0 : w4.cell? ⟨w2.heap.size, 0, none⟩ = some (.int .i64 16) := B.cell Y4.out 0 rfl; have y1 : w4.cell? ⟨w2.heap.size, 1, none⟩ = some (.int .i64 0) := B.cell Y4.out 1 rfl; have y2 : w4.cell? ⟨w2.heap.size, 2, none⟩ = some (.int .i64 0) := B.cell Y4.out 2 rfl; have y3 : w4.cell? ⟨w2.heap.size, 3, none⟩ = some (.int .i64 0) := B.cell Y4.out 3 rfl; have y4 : w4.cell? ⟨w2.heap.size, 4, none⟩ = some (.int .i64 6) := B.cell Y4.out 4 rfl))
  go_ret
  exact ⟨by simp, HB4.out⟩
end Go.Proofs.YtklobjfhjlkgfaaDoor.TW
/- TextShows: its walk. -/
namespace Go.Proofs.YtklobjfhjlkgfaaDoor.TW
open Go.RowKit
set_option linter.unusedVariables false
set_option maxRecDepth 100000
set_option linter.unusedSimpArgs false

theorem eqZero (V : World) : (Op.equalIn 10000 23 (.agg #[.int .i64 0, .int .i64 0, .int .i64 0, .int .i64 0, .int .i64 0]) (.agg #[.int .i64 0, .int .i64 0, .int .i64 0, .int .i64 0, .int .i64 0])).run Tryd.prog V = .ok true V := by
  have h := eqIns zeroI zeroI V
  rw [decide_eq_true rfl] at h
  exact h
set_option maxHeartbeats 8000000 in
theorem shows_any (i : PM.Ins) (s : ByteArray) (w : World) (tb o cap : Nat) (hl : Lay tb o cap w) (hs : s.size < 4294967281) : Calls Tryd.prog 3 #[.agg i.cells, .string s] w fun e w' => e = .returned (.bool true) ∧ Below w.heap.size w w' := by
  have HL := hideC hl
  have HBG := hideC (fun V (hV : Lay tb o cap V) => begun_any V tb o cap hV)
  have HSh := hideC (fun V (hV : Lay tb o cap V) => show_any i V tb o cap hV)
  have HEr := hideC (PW.error_any i)
  have HTx := hideC (text_any i)
  have HRd := hideC (fun V (hV : Lay tb o cap V) => read_any s V tb o cap hV hs)
  have HTi := hideC (fun V => ti_any s V hs)
  rw [ti_read s] at HTi
  rw [← show_text i] at HTx
  rw [show PM.Ins.cells i = #[.int .i64 i.op, .int .i64 i.a, .int .i64 i.b, .int .i64 i.c, .int .i64 i.m] from rfl] at HSh HEr HTx
  have HB0 := hideC ((Below.refl w.heap.size w).alloc (Nat.le_refl _) (.cells #[.int .i64 i.op, .int .i64 i.a, .int .i64 i.b, .int .i64 i.c, .int .i64 i.m] 23))
  have X0 := hideC (B.new w #[.int .i64 i.op, .int .i64 i.a, .int .i64 i.b, .int .i64 i.c, .int .i64 i.m] 23)
  clear hl
  simp only [PM.Ins.cells]
  by_cases hf : i.fits
  · rw [if_pos hf, if_pos hf] at HSh
    rw [if_pos hf] at HEr
    replace HTx := hideC (HTx.out hf)
    obtain ⟨S, hS⟩ : ∃ S, S = showN i := ⟨_, rfl⟩
    rw [← hS] at HSh HTx
    have hqq : (S.toList == S.toList) = true := by simp
    clear hf hS
    cases hrs : readN s with
    | some y =>
      rw [hrs] at HRd HTi
      replace HRd : Hid (∀ V, Lay tb o cap V → Calls Tryd.prog 9 #[.string s] V fun e w' => e = .returned (.tuple #[.agg #[.int .i64 y.op, .int .i64 y.a, .int .i64 y.b, .int .i64 y.c, .int .i64 y.m], .int .i64 0]) ∧ Below V.heap.size V w') := HRd
      replace HTi : Hid (∀ V, Calls Tryd.prog 10 #[.string s] V fun e w' => e = .returned (.tuple #[.agg #[.int .i64 y.op, .int .i64 y.a, .int .i64 y.b, .int .i64 y.c, .int .i64 y.m], .bool true]) ∧ Below V.heap.size V w') := HTi
      have hEQ : ∀ V, (Op.equalIn 10000 23 (.agg #[.int .i64 y.op, .int .i64 y.a, .int .i64 y.b, .int .i64 y.c, .int .i64 y.m]) (.agg #[.int .i64 y.op, .int .i64 y.a, .int .i64 y.b, .int .i64 y.c, .int .i64 y.m])).run Tryd.prog V = .ok true V := fun V => by
        have h := eqIns y y V
        rw [decide_eq_true rfl] at h
        exact h
      clear hrs
      go_enter Tryd.func3, Tryd.ntmps3
      go_wp2_with fail
      refine (HSh.out _ (HL.out.below HB0.out)).mono ?_
      rintro e w1 ⟨rfl, hbx⟩
      have HB1 := hideC (add_below HB0.out hbx)
      have X1 := hideC (B.below X0.out hbx (B.isLt X0.out))
      clear hbx
      have g0 : w1.cell? ⟨w.heap.size, 0, none⟩ = some (.int .i64 i.op) := B.cell X1.out 0 rfl
      have g1 : w1.cell? ⟨w.heap.size, 1, none⟩ = some (.int .i64 i.a) := B.cell X1.out 1 rfl
      have g2 : w1.cell? ⟨w.heap.size, 2, none⟩ = some (.int .i64 i.b) := B.cell X1.out 2 rfl
      have g3 : w1.cell? ⟨w.heap.size, 3, none⟩ = some (.int .i64 i.c) := B.cell X1.out 3 rfl
      have g4 : w1.cell? ⟨w.heap.size, 4, none⟩ = some (.int .i64 i.m) := B.cell X1.out 4 rfl
      go_wp2_with fail
      refine (HEr.out _).mono ?_
      rintro e w2 ⟨rfl, hbx⟩
      have HB2 := hideC (add_below HB1.out hbx)
      have X2 := hideC (B.below X1.out hbx (B.isLt X1.out))
      clear hbx g0 g1 g2 g3 g4
      have g0 : w2.cell? ⟨w.heap.size, 0, none⟩ = some (.int .i64 i.op) := B.cell X2.out 0 rfl
      have g1 : w2.cell? ⟨w.heap.size, 1, none⟩ = some (.int .i64 i.a) := B.cell X2.out 1 rfl
      have g2 : w2.cell? ⟨w.heap.size, 2, none⟩ = some (.int .i64 i.b) := B.cell X2.out 2 rfl
      have g3 : w2.cell? ⟨w.heap.size, 3, none⟩ = some (.int .i64 i.c) := B.cell X2.out 3 rfl
      have g4 : w2.cell? ⟨w.heap.size, 4, none⟩ = some (.int .i64 i.m) := B.cell X2.out 4 rfl
      go_wp2_with fail
      refine (HTx.out _).mono ?_
      rintro e w3 ⟨rfl, hbx⟩
      have HB3 := hideC (add_below HB2.out hbx)
      clear hbx g0 g1 g2 g3 g4
      go_wp2_with fail
      refine (HRd.out _ (HL.out.below HB3.out)).mono ?_
      rintro e w4 ⟨rfl, hbx⟩
      have HB4 := hideC (add_below HB3.out hbx)
      clear hbx
      have Y4 := hideC (B.new w4 #[.int .i64 y.op, .int .i64 y.a, .int .i64 y.b, .int .i64 y.c, .int .i64 y.m] 23)
      go_wp2_with fail
      refine (HTi.out _).mono ?_
      rintro e w5 ⟨rfl, hbx⟩
      have HB5 := hideC (add_below (HB4.out.alloc HB4.out.size _) hbx)
      have Y5 := hideC (B.below Y4.out hbx (B.isLt Y4.out))
      clear hbx
      have Z5 := hideC (B.new w5 #[.int .i64 y.op, .int .i64 y.a, .int .i64 y.b, .int .i64 y.c, .int .i64 y.m] 23)
      have YA := hideC (B.alloc Y5.out (.cells #[.int .i64 y.op, .int .i64 y.a, .int .i64 y.b, .int .i64 y.c, .int .i64 y.m] 23))
      go_wp2_with fail
      refine (HBG.out _ (HL.out.below (HB5.out.alloc HB5.out.size _))).mono ?_
      rintro e w6 ⟨rfl, hbx⟩
      have HB6 := hideC (add_below (HB5.out.alloc HB5.out.size _) hbx)
      have Y6 := hideC (B.below YA.out hbx (B.isLt YA.out))
      have Z6 := hideC (B.below Z5.out hbx (B.isLt Z5.out))
      clear hbx
      have y0 : w6.cell? ⟨w4.heap.size, 0, none⟩ = some (.int .i64 y.op) := B.cell Y6.out 0 rfl
      have z0 : w6.cell? ⟨w5.heap.size, 0, none⟩ = some (.int .i64 y.op) := B.cell Z6.out 0 rfl
      have y1 : w6.cell? ⟨w4.heap.size, 1, none⟩ = some (.int .i64 y.a) := B.cell Y6.out 1 rfl
      have z1 : w6.cell? ⟨w5.heap.size, 1, none⟩ = some (.int .i64 y.a) := B.cell Z6.out 1 rfl
      have y2 : w6.cell? ⟨w4.heap.size, 2, none⟩ = some (.int .i64 y.b) := B.cell Y6.out 2 rfl
      have z2 : w6.cell? ⟨w5.heap.size, 2, none⟩ = some (.int .i64 y.b) := B.cell Z6.out 2 rfl
      have y3 : w6.cell? ⟨w4.heap.size, 3, none⟩ = some (.int .i64 y.c) := B.cell Y6.out 3 rfl
      have z3 : w6.cell? ⟨w5.heap.size, 3, none⟩ = some (.int .i64 y.c) := B.cell Z6.out 3 rfl
      have y4 : w6.cell? ⟨w4.heap.size, 4, none⟩ = some (.int .i64 y.m) := B.cell Y6.out 4 rfl
      have z4 : w6.cell? ⟨w5.heap.size, 4, none⟩ = some (.int .i64 y.m) := B.cell Z6.out 4 rfl
      go_wp2
      go_ret
      exact ⟨by first | rfl | simp, HB6.out⟩
    | none =>
      rw [hrs] at HRd HTi
      replace HRd : Hid (∀ V, Lay tb o cap V → Calls Tryd.prog 9 #[.string s] V fun e w' => e = .returned (.tuple #[.agg #[.int .i64 0, .int .i64 0, .int .i64 0, .int .i64 0, .int .i64 0], .int .i64 1]) ∧ Below V.heap.size V w') := HRd
      replace HTi : Hid (∀ V, Calls Tryd.prog 10 #[.string s] V fun e w' => e = .returned (.tuple #[.agg #[.int .i64 0, .int .i64 0, .int .i64 0, .int .i64 0, .int .i64 0], .bool false]) ∧ Below V.heap.size V w') := HTi
      have hEQ := eqZero
      clear hrs
      go_enter Tryd.func3, Tryd.ntmps3
      go_wp2_with fail
      refine (HSh.out _ (HL.out.below HB0.out)).mono ?_
      rintro e w1 ⟨rfl, hbx⟩
      have HB1 := hideC (add_below HB0.out hbx)
      have X1 := hideC (B.below X0.out hbx (B.isLt X0.out))
      clear hbx
      have g0 : w1.cell? ⟨w.heap.size, 0, none⟩ = some (.int .i64 i.op) := B.cell X1.out 0 rfl
      have g1 : w1.cell? ⟨w.heap.size, 1, none⟩ = some (.int .i64 i.a) := B.cell X1.out 1 rfl
      have g2 : w1.cell? ⟨w.heap.size, 2, none⟩ = some (.int .i64 i.b) := B.cell X1.out 2 rfl
      have g3 : w1.cell? ⟨w.heap.size, 3, none⟩ = some (.int .i64 i.c) := B.cell X1.out 3 rfl
      have g4 : w1.cell? ⟨w.heap.size, 4, none⟩ = some (.int .i64 i.m) := B.cell X1.out 4 rfl
      go_wp2_with fail
      refine (HEr.out _).mono ?_
      rintro e w2 ⟨rfl, hbx⟩
      have HB2 := hideC (add_below HB1.out hbx)
      have X2 := hideC (B.below X1.out hbx (B.isLt X1.out))
      clear hbx g0 g1 g2 g3 g4
      have g0 : w2.cell? ⟨w.heap.size, 0, none⟩ = some (.int .i64 i.op) := B.cell X2.out 0 rfl
      have g1 : w2.cell? ⟨w.heap.size, 1, none⟩ = some (.int .i64 i.a) := B.cell X2.out 1 rfl
      have g2 : w2.cell? ⟨w.heap.size, 2, none⟩ = some (.int .i64 i.b) := B.cell X2.out 2 rfl
      have g3 : w2.cell? ⟨w.heap.size, 3, none⟩ = some (.int .i64 i.c) := B.cell X2.out 3 rfl
      have g4 : w2.cell? ⟨w.heap.size, 4, none⟩ = some (.int .i64 i.m) := B.cell X2.out 4 rfl
      go_wp2_with fail
      refine (HTx.out _).mono ?_
      rintro e w3 ⟨rfl, hbx⟩
      have HB3 := hideC (add_below HB2.out hbx)
      clear hbx g0 g1 g2 g3 g4
      go_wp2_with fail
      refine (HRd.out _ (HL.out.below HB3.out)).mono ?_
      rintro e w4 ⟨rfl, hbx⟩
      have HB4 := hideC (add_below HB3.out hbx)
      clear hbx
      have Y4 := hideC (B.new w4 #[.int .i64 0, .int .i64 0, .int .i64 0, .int .i64 0, .int .i64 0] 23)
      go_wp2_with fail
      refine (HTi.out _).mono ?_
      rintro e w5 ⟨rfl, hbx⟩
      have HB5 := hideC (add_below (HB4.out.alloc HB4.out.size _) hbx)
      have Y5 := hideC (B.below Y4.out hbx (B.isLt Y4.out))
      clear hbx
      have Z5 := hideC (B.new w5 #[.int .i64 0, .int .i64 0, .int .i64 0, .int .i64 0, .int .i64 0] 23)
      have YA := hideC (B.alloc Y5.out (.cells #[.int .i64 0, .int .i64 0, .int .i64 0, .int .i64 0, .int .i64 0] 23))
      go_wp2_with fail
      refine (HBG.out _ (HL.out.below (HB5.out.alloc HB5.out.size _))).mono ?_
      rintro e w6 ⟨rfl, hbx⟩
      have HB6 := hideC (add_below (HB5.out.alloc HB5.out.size _) hbx)
      have Y6 := hideC (B.below YA.out hbx (B.isLt YA.out))
      have Z6 := hideC (B.below Z5.out hbx (B.isLt Z5.out))
      clear hbx
      have y0 : w6.cell? ⟨w4.heap.size, 0, none⟩ = some (.int .i64 0) := B.cell Y6.out 0 rfl
      have z0 : w6.cell? ⟨w5.heap.size, 0, none⟩ = some (.int .i64 0) := B.cell Z6.out 0 rfl
      have y1 : w6.cell? ⟨w4.heap.size, 1, none⟩ = some (.int .i64 0) := B.cell Y6.out 1 rfl
      have z1 : w6.cell? ⟨w5.heap.size, 1, none⟩ = some (.int .i64 0) := B.cell Z6.out 1 rfl
      have y2 : w6.cell? ⟨w4.heap.size, 2, none⟩ = some (.int .i64 0) := B.cell Y6.out 2 rfl
      have z2 : w6.cell? ⟨w5.heap.size, 2, none⟩ = some (.int .i64 0) := B.cell Z6.out 2 rfl
      have y3 : w6.cell? ⟨w4.heap.size, 3, none⟩ = some (.int .i64 0) := B.cell Y6.out 3 rfl
      have z3 : w6.cell? ⟨w5.heap.size, 3, none⟩ = some (.int .i64 0) := B.cell Z6.out 3 rfl
      have y4 : w6.cell? ⟨w4.heap.size, 4, none⟩ = some (.int .i64 0) := B.cell Y6.out 4 rfl
      have z4 : w6.cell? ⟨w5.heap.size, 4, none⟩ = some (.int .i64 0) := B.cell Z6.out 4 rfl
      go_wp2
      go_ret
      exact ⟨by first | rfl | simp, HB6.out⟩
  · rw [if_neg hf, if_neg hf] at HSh
    rw [if_neg hf] at HEr
    clear hf HTx
    cases hrs : readN s with
    | some y =>
      rw [hrs] at HRd HTi
      replace HRd : Hid (∀ V, Lay tb o cap V → Calls Tryd.prog 9 #[.string s] V fun e w' => e = .returned (.tuple #[.agg #[.int .i64 y.op, .int .i64 y.a, .int .i64 y.b, .int .i64 y.c, .int .i64 y.m], .int .i64 0]) ∧ Below V.heap.size V w') := HRd
      replace HTi : Hid (∀ V, Calls Tryd.prog 10 #[.string s] V fun e w' => e = .returned (.tuple #[.agg #[.int .i64 y.op, .int .i64 y.a, .int .i64 y.b, .int .i64 y.c, .int .i64 y.m], .bool true]) ∧ Below V.heap.size V w') := HTi
      have hEQ : ∀ V, (Op.equalIn 10000 23 (.agg #[.int .i64 y.op, .int .i64 y.a, .int .i64 y.b, .int .i64 y.c, .int .i64 y.m]) (.agg #[.int .i64 y.op, .int .i64 y.a, .int .i64 y.b, .int .i64 y.c, .int .i64 y.m])).run Tryd.prog V = .ok true V := fun V => by
        have h := eqIns y y V
        rw [decide_eq_true rfl] at h
        exact h
      clear hrs
      go_enter Tryd.func3, Tryd.ntmps3
      go_wp2_with fail
      refine (HSh.out _ (HL.out.below HB0.out)).mono ?_
      rintro e w1 ⟨rfl, hbx⟩
      have HB1 := hideC (add_below HB0.out hbx)
      have X1 := hideC (B.below X0.out hbx (B.isLt X0.out))
      clear hbx
      have g0 : w1.cell? ⟨w.heap.size, 0, none⟩ = some (.int .i64 i.op) := B.cell X1.out 0 rfl
      have g1 : w1.cell? ⟨w.heap.size, 1, none⟩ = some (.int .i64 i.a) := B.cell X1.out 1 rfl
      have g2 : w1.cell? ⟨w.heap.size, 2, none⟩ = some (.int .i64 i.b) := B.cell X1.out 2 rfl
      have g3 : w1.cell? ⟨w.heap.size, 3, none⟩ = some (.int .i64 i.c) := B.cell X1.out 3 rfl
      have g4 : w1.cell? ⟨w.heap.size, 4, none⟩ = some (.int .i64 i.m) := B.cell X1.out 4 rfl
      go_wp2_with fail
      refine (HEr.out _).mono ?_
      rintro e w2 ⟨rfl, hbx⟩
      have HB2 := hideC (add_below HB1.out hbx)
      have X2 := hideC (B.below X1.out hbx (B.isLt X1.out))
      clear hbx g0 g1 g2 g3 g4
      go_wp2_with fail
      refine (HRd.out _ (HL.out.below HB2.out)).mono ?_
      rintro e w4 ⟨rfl, hbx⟩
      have HB4 := hideC (add_below HB2.out hbx)
      clear hbx
      have Y4 := hideC (B.new w4 #[.int .i64 y.op, .int .i64 y.a, .int .i64 y.b, .int .i64 y.c, .int .i64 y.m] 23)
      go_wp2_with fail
      refine (HTi.out _).mono ?_
      rintro e w5 ⟨rfl, hbx⟩
      have HB5 := hideC (add_below (HB4.out.alloc HB4.out.size _) hbx)
      have Y5 := hideC (B.below Y4.out hbx (B.isLt Y4.out))
      clear hbx
      have Z5 := hideC (B.new w5 #[.int .i64 y.op, .int .i64 y.a, .int .i64 y.b, .int .i64 y.c, .int .i64 y.m] 23)
      have YA := hideC (B.alloc Y5.out (.cells #[.int .i64 y.op, .int .i64 y.a, .int .i64 y.b, .int .i64 y.c, .int .i64 y.m] 23))
      go_wp2_with fail
      refine (HBG.out _ (HL.out.below (HB5.out.alloc HB5.out.size _))).mono ?_
      rintro e w6 ⟨rfl, hbx⟩
      have HB6 := hideC (add_below (HB5.out.alloc HB5.out.size _) hbx)
      have Y6 := hideC (B.below YA.out hbx (B.isLt YA.out))
      have Z6 := hideC (B.below Z5.out hbx (B.isLt Z5.out))
      clear hbx
      have y0 : w6.cell? ⟨w4.heap.size, 0, none⟩ = some (.int .i64 y.op) := B.cell Y6.out 0 rfl
      have z0 : w6.cell? ⟨w5.heap.size, 0, none⟩ = some (.int .i64 y.op) := B.cell Z6.out 0 rfl
      have y1 : w6.cell? ⟨w4.heap.size, 1, none⟩ = some (.int .i64 y.a) := B.cell Y6.out 1 rfl
      have z1 : w6.cell? ⟨w5.heap.size, 1, none⟩ = some (.int .i64 y.a) := B.cell Z6.out 1 rfl
      have y2 : w6.cell? ⟨w4.heap.size, 2, none⟩ = some (.int .i64 y.b) := B.cell Y6.out 2 rfl
      have z2 : w6.cell? ⟨w5.heap.size, 2, none⟩ = some (.int .i64 y.b) := B.cell Z6.out 2 rfl
      have y3 : w6.cell? ⟨w4.heap.size, 3, none⟩ = some (.int .i64 y.c) := B.cell Y6.out 3 rfl
      have z3 : w6.cell? ⟨w5.heap.size, 3, none⟩ = some (.int .i64 y.c) := B.cell Z6.out 3 rfl
      have y4 : w6.cell? ⟨w4.heap.size, 4, none⟩ = some (.int .i64 y.m) := B.cell Y6.out 4 rfl
      have z4 : w6.cell? ⟨w5.heap.size, 4, none⟩ = some (.int .i64 y.m) := B.cell Z6.out 4 rfl
      go_wp2
      go_ret
      exact ⟨by first | rfl | simp, HB6.out⟩
    | none =>
      rw [hrs] at HRd HTi
      replace HRd : Hid (∀ V, Lay tb o cap V → Calls Tryd.prog 9 #[.string s] V fun e w' => e = .returned (.tuple #[.agg #[.int .i64 0, .int .i64 0, .int .i64 0, .int .i64 0, .int .i64 0], .int .i64 1]) ∧ Below V.heap.size V w') := HRd
      replace HTi : Hid (∀ V, Calls Tryd.prog 10 #[.string s] V fun e w' => e = .returned (.tuple #[.agg #[.int .i64 0, .int .i64 0, .int .i64 0, .int .i64 0, .int .i64 0], .bool false]) ∧ Below V.heap.size V w') := HTi
      have hEQ := eqZero
      clear hrs
      go_enter Tryd.func3, Tryd.ntmps3
      go_wp2_with fail
      refine (HSh.out _ (HL.out.below HB0.out)).mono ?_
      rintro e w1 ⟨rfl, hbx⟩
      have HB1 := hideC (add_below HB0.out hbx)
      have X1 := hideC (B.below X0.out hbx (B.isLt X0.out))
      clear hbx
      have g0 : w1.cell? ⟨w.heap.size, 0, none⟩ = some (.int .i64 i.op) := B.cell X1.out 0 rfl
      have g1 : w1.cell? ⟨w.heap.size, 1, none⟩ = some (.int .i64 i.a) := B.cell X1.out 1 rfl
      have g2 : w1.cell? ⟨w.heap.size, 2, none⟩ = some (.int .i64 i.b) := B.cell X1.out 2 rfl
      have g3 : w1.cell? ⟨w.heap.size, 3, none⟩ = some (.int .i64 i.c) := B.cell X1.out 3 rfl
      have g4 : w1.cell? ⟨w.heap.size, 4, none⟩ = some (.int .i64 i.m) := B.cell X1.out 4 rfl
      go_wp2_with fail
      refine (HEr.out _).mono ?_
      rintro e w2 ⟨rfl, hbx⟩
      have HB2 := hideC (add_below HB1.out hbx)
      have X2 := hideC (B.below X1.out hbx (B.isLt X1.out))
      clear hbx g0 g1 g2 g3 g4
      go_wp2_with fail
      refine (HRd.out _ (HL.out.below HB2.out)).mono ?_
      rintro e w4 ⟨rfl, hbx⟩
      have HB4 := hideC (add_below HB2.out hbx)
      clear hbx
      have Y4 := hideC (B.new w4 #[.int .i64 0, .int .i64 0, .int .i64 0, .int .i64 0, .int .i64 0] 23)
      go_wp2_with fail
      refine (HTi.out _).mono ?_
      rintro e w5 ⟨rfl, hbx⟩
      have HB5 := hideC (add_below (HB4.out.alloc HB4.out.size _) hbx)
      have Y5 := hideC (B.below Y4.out hbx (B.isLt Y4.out))
      clear hbx
      have Z5 := hideC (B.new w5 #[.int .i64 0, .int .i64 0, .int .i64 0, .int .i64 0, .int .i64 0] 23)
      have YA := hideC (B.alloc Y5.out (.cells #[.int .i64 0, .int .i64 0, .int .i64 0, .int .i64 0, .int .i64 0] 23))
      go_wp2_with fail
      refine (HBG.out _ (HL.out.below (HB5.out.alloc HB5.out.size _))).mono ?_
      rintro e w6 ⟨rfl, hbx⟩
      have HB6 := hideC (add_below (HB5.out.alloc HB5.out.size _) hbx)
      have Y6 := hideC (B.below YA.out hbx (B.isLt YA.out))
      have Z6 := hideC (B.below Z5.out hbx (B.isLt Z5.out))
      clear hbx
      have y0 : w6.cell? ⟨w4.heap.size, 0, none⟩ = some (.int .i64 0) := B.cell Y6.out 0 rfl
      have z0 : w6.cell? ⟨w5.heap.size, 0, none⟩ = some (.int .i64 0) := B.cell Z6.out 0 rfl
      have y1 : w6.cell? ⟨w4.heap.size, 1, none⟩ = some (.int .i64 0) := B.cell Y6.out 1 rfl
      have z1 : w6.cell? ⟨w5.heap.size, 1, none⟩ = some (.int .i64 0) := B.cell Z6.out 1 rfl
      have y2 : w6.cell? ⟨w4.heap.size, 2, none⟩ = some (.int .i64 0) := B.cell Y6.out 2 rfl
      have z2 : w6.cell? ⟨w5.heap.size, 2, none⟩ = some (.int .i64 0) := B.cell Z6.out 2 rfl
      have y3 : w6.cell? ⟨w4.heap.size, 3, none⟩ = some (.int .i64 0) := B.cell Y6.out 3 rfl
      have z3 : w6.cell? ⟨w5.heap.size, 3, none⟩ = some (.int .i64 0) := B.cell Z6.out 3 rfl
      have y4 : w6.cell? ⟨w4.heap.size, 4, none⟩ = some (.int .i64 0) := B.cell Y6.out 4 rfl
      have z4 : w6.cell? ⟨w5.heap.size, 4, none⟩ = some (.int .i64 0) := B.cell Z6.out 4 rfl
      go_wp2
      go_ret
      exact ⟨by first | rfl | simp, HB6.out⟩
end Go.Proofs.YtklobjfhjlkgfaaDoor.TW
