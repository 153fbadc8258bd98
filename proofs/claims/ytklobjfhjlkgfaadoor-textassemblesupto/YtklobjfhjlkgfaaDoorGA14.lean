import Derived.Test.YtklobjfhjlkgfaaDoorGA13
import Derived.Test.YtklobjfhjlkgfaaDoorGA08
import Derived.Test.YtklobjfhjlkgfaaDoorGA07
/- Plain: lines and bytes are each other's way back. -/
namespace Go.Proofs.YtklobjfhjlkgfaaDoor.TW
open Go.RowKit
set_option linter.unusedVariables false
set_option maxRecDepth 100000
set_option linter.unusedSimpArgs false

theorem byte_cases (c : UInt8) : ∀ l : List UInt8, NoB c l ∨ ∃ a b, l = a ++ c :: b ∧ NoB c a
  | [] => .inl (fun x hx => by cases hx)
  | x :: l => by
    by_cases e : x = c
    · exact .inr ⟨[], l, by rw [e]; rfl, fun y hy => by cases hy⟩
    · rcases byte_cases c l with h | ⟨a, b, h1, h2⟩
      · refine .inl (fun y hy => ?_)
        rcases List.mem_cons.1 hy with rfl | hy
        · exact e
        · exact h y hy
      · refine .inr ⟨x :: a, b, by rw [h1]; rfl, fun y hy => ?_⟩
        rcases List.mem_cons.1 hy with rfl | hy
        · exact e
        · exact h2 y hy
theorem cut_no (l : List UInt8) (h : NoB 10 l) : Lib.cut l [10] = (l, [], false) := by
  unfold Lib.cut
  rw [index_no 10 l h, if_neg (by omega)]
theorem cut_at (a b : List UInt8) (h : NoB 10 a) : Lib.cut (a ++ 10 :: b) [10] = (a, b, true) := by
  unfold Lib.cut
  rw [index_at 10 b a h, if_pos (by omega)]
  have h1 : ((a.length : Int)).toNat = a.length := by omega
  rw [h1]
  congr 1
  · simp
  · congr 1
    rw [List.drop_append]
    simp
/-- the text of a line and what is behind it -/
theorem end_split (s : ByteArray) (h : endN s = true) : s.data.toList = (lineN s).data.toList ++ 10 :: (restN s).data.toList ∧ NoB 10 (lineN s).data.toList := by
  unfold endN at h
  rcases byte_cases 10 s.data.toList with hn | ⟨a, b, hs, hn⟩
  · rw [cut_no _ hn] at h
    cases h
  · have e1 : (lineN s).data.toList = a := by
      unfold lineN
      rw [hs, cut_at a b hn]
    have e2 : (restN s).data.toList = b := by
      unfold restN
      rw [hs, cut_at a b hn]
    rw [e1, e2]
    exact ⟨hs, hn⟩
theorem end_no (s : ByteArray) (h : endN s = false) : NoB 10 s.data.toList := by
  unfold endN at h
  rcases byte_cases 10 s.data.toList with hn | ⟨a, b, hs, hn⟩
  · exact hn
  · rw [hs, cut_at a b hn] at h
    cases h
/-- the lines of instructions -/
def linesL : List PM.Ins → List UInt8
  | [] => []
  | i :: l => (showN i).data.toList ++ 10 :: linesL l
theorem linesL_append : ∀ a b : List PM.Ins, linesL (a ++ b) = linesL a ++ linesL b
  | [], b => rfl
  | i :: a, b => by
    show (showN i).data.toList ++ 10 :: linesL (a ++ b) = _
    rw [linesL_append a b]
    simp [linesL]
theorem show_no10 (i : PM.Ins) : NoB 10 (showN i).data.toList := by
  obtain ⟨k, hk, hr, ht⟩ := rowOf_tells i i.bad
  rw [show_list i (rowAt k) hr]
  have : ∀ (r : List (List UInt8)) (x : List UInt8), NoB 10 x → (∀ y ∈ r, NoB 10 y) → NoB 10 (Lib.join (x :: r) [32]) := by
    intro r
    induction r with
    | nil => intro x hx _; rw [Lib.join_one]; exact hx
    | cons y r ih =>
      intro x hx hr
      rw [Lib.join_cons, tail_cons]
      have h2 := ih y (hr y List.mem_cons_self) (fun z hz => hr z (List.mem_cons_of_mem _ hz))
      intro z hz
      rcases List.mem_append.1 hz with hz | hz
      · exact hx z hz
      · rcases List.mem_append.1 hz with hz | hz
        · obtain rfl := List.mem_singleton.1 hz
          decide
        · exact h2 z hz
  refine this _ _ (fun x hx => (row_noB k x hx).2) ?_
  intro y hy
  rw [List.map_map] at hy
  obtain ⟨j, _, rfl⟩ := List.mem_map.1 hy
  show NoB 10 (itoaS (partL (rowAt k) i j)).data.toList
  have e : (itoaS (partL (rowAt k) i j)).data.toList = Lib.itoa (partL (rowAt k) i j) := by unfold itoaS; simp
  rw [e]
  exact itoa_no _ 10 (by decide)
theorem count_no (l : List UInt8) (h : NoB 10 l) : l.count 10 = 0 := List.count_eq_zero.2 (fun hm => h 10 hm rfl)
/-- what was assembled is the lines of what was read -/
theorem asm_lines : ∀ (n : Nat) (p : ByteArray) (l : List PM.Ins), asmTo n p = some l → p.data.toList = linesL l ∧ p.data.toList.count 10 = l.length ∧ ∀ i ∈ l, i.fits
  | 0, p, l, h => by cases h
  | n + 1, p, l, h => by
    cases he : endN p with
    | false =>
      rw [asm_end he] at h
      split at h
      · rename_i hz
        injection h with h
        subst h
        have : p.data.toList = [] := by rw [Lib.size_eq] at hz; exact List.length_eq_zero_iff.1 hz
        rw [this]
        exact ⟨rfl, rfl, fun i hi => by cases hi⟩
      · cases h
    | true =>
      obtain ⟨h1, h2⟩ := end_split p he
      cases hr : readN (lineN p) with
      | none => rw [asm_bad he hr] at h; cases h
      | some i =>
        rw [asm_step he hr] at h
        cases hq : asmTo n (restN p) with
        | none => rw [hq] at h; cases h
        | some q =>
          rw [hq] at h
          injection h with h
          subst h
          obtain ⟨g1, g2, g3⟩ := asm_lines n (restN p) q hq
          obtain ⟨hf, hs⟩ := read_fits hr
          refine ⟨?_, ?_, ?_⟩
          · rw [h1, g1]
            show _ = (showN i).data.toList ++ 10 :: linesL q
            rw [hs]
          · rw [h1, List.count_append, count_no _ h2, List.count_cons, g2]
            simp
          · intro j hj
            rcases List.mem_cons.1 hj with rfl | hj
            · exact hf
            · exact g3 j hj
/-- the lines of instructions are read as they were -/
theorem asm_of_lines : ∀ (l : List PM.Ins), (∀ i ∈ l, i.fits) → ∀ (n : Nat) (s : ByteArray), s.data.toList = linesL l → l.length < n → asmTo n s = some l
  | [], _, 0, s, hs, hn => by simp at hn
  | [], _, n + 1, s, hs, hn => by
    have he : endN s = false := by unfold endN; rw [hs]; rfl
    have hz : s.size = 0 := by rw [Lib.size_eq, hs]; rfl
    rw [asm_end he, if_pos hz]
  | i :: l, hf, 0, s, hs, hn => by simp at hn
  | i :: l, hf, n + 1, s, hs, hn => by
    have hs2 : s.data.toList = (showN i).data.toList ++ 10 :: linesL l := hs
    have hcut := cut_at _ (linesL l) (show_no10 i)
    rw [← hs2] at hcut
    have he : endN s = true := by unfold endN; rw [hcut]
    have hl : lineN s = showN i := by unfold lineN; rw [hcut]
    have hr : (restN s).data.toList = linesL l := by unfold restN; rw [hcut]
    rw [asm_step he (by rw [hl]; exact read_show i (hf i List.mem_cons_self)), asm_of_lines l (fun j hj => hf j (List.mem_cons_of_mem _ hj)) n (restN s) hr (by simp at hn; omega)]
    rfl
theorem code_size : ∀ l : List PM.Ins, (codeOf l).size = 8 * l.length
  | [] => rfl
  | i :: l => by
    show (i.bytes ++ codeOf l).size = _
    rw [ByteArray.size_append, PM.bytes_size, code_size l]
    simp
    omega
theorem code_data (i : PM.Ins) (l : List PM.Ins) : (codeOf (i :: l)).data.toList = i.bytes.data.toList ++ (codeOf l).data.toList := by
  show ((i.bytes ++ codeOf l).data).toList = _
  rw [ByteArray.data_append]
  simp
/-- the k-th eight bytes -/
theorem code_chunk : ∀ (l : List PM.Ins) (k : Nat) (i : PM.Ins), l[k]? = some i → chunk (codeOf l) k = i.bytes
  | [], k, i, h => by simp at h
  | j :: l, 0, i, h => by
    have e : j = i := by simpa using h
    subst e
    apply str_data
    unfold chunk
    rw [Lib.extract_data, code_data]
    have : j.bytes.data.toList.length = 8 := by rw [← Lib.size_eq]; exact PM.bytes_size j
    simp [this]
  | j :: l, k + 1, i, h => by
    have h2 : l[k]? = some i := by simpa using h
    have ih := code_chunk l k i h2
    rw [← ih]
    apply str_data
    unfold chunk
    rw [Lib.extract_data, Lib.extract_data, code_data]
    have h8 : j.bytes.data.toList.length = 8 := by rw [← Lib.size_eq]; exact PM.bytes_size j
    have e1 : 8 * (k + 1) = 8 + 8 * k := by omega
    rw [e1, List.drop_append, h8]
    have e2 : 8 + 8 * k - 8 = 8 * k := by omega
    have e3 : j.bytes.data.toList.drop (8 + 8 * k) = [] := List.drop_eq_nil_of_le (by omega)
    have e4 : 8 + 8 * k + 8 - (8 + 8 * k) = 8 * k + 8 - 8 * k := by omega
    rw [e2, e3, e4]
    rfl
theorem list_code (l : List PM.Ins) (hf : ∀ i ∈ l, i.fits) : ∀ k, k ≤ l.length → (listTo (codeOf l) k).data.toList = linesL (l.take k)
  | 0, _ => by rw [List.take_zero]; rfl
  | k + 1, hk => by
    have ih := list_code l hf k (by omega)
    have hk2 : k < l.length := by omega
    have hi : l[k]? = some l[k] := List.getElem?_eq_getElem hk2
    have hm : l[k] ∈ l := List.getElem_mem hk2
    show ((listTo (codeOf l) k ++ (showN (PM.ins (chunk (codeOf l) k)) ++ nl)).data).toList = _
    rw [code_chunk l k _ hi, PM.ins_bytes _ (hf _ hm), ByteArray.data_append, ByteArray.data_append, Array.toList_append, Array.toList_append, ih, List.take_succ_eq_append_getElem hk2, linesL_append]
    rfl
/-- List of what Assemble made is the text -/
theorem list_asm (p : ByteArray) (h : (asmN p).2 = 0) : listN (asmN p).1 = (p, 0) := by
  unfold asmN at h ⊢
  by_cases hc : 512 < Lib.countByte p.data.toList 10
  · rw [if_pos hc] at h; cases h
  · rw [if_neg hc] at h ⊢
    cases ha : asmTo (p.size + 1) p with
    | none => rw [ha] at h; cases h
    | some l =>
      simp only
      obtain ⟨h1, h2, h3⟩ := asm_lines _ _ _ ha
      have hl : l.length ≤ 512 := by
        have : Lib.countByte p.data.toList 10 = l.length := h2
        omega
      have hz := code_size l
      unfold listN
      rw [if_neg (by omega), if_neg (by omega)]
      have e : (codeOf l).size / 8 = l.length := by omega
      rw [e]
      congr 1
      apply str_data
      rw [list_code l h3 l.length (Nat.le_refl _), List.take_length, h1]
/-- the instructions of bytes -/
def insL (b : ByteArray) (k : Nat) : List PM.Ins := (List.range k).map fun j => PM.ins (chunk b j)
theorem insL_succ (b : ByteArray) (k : Nat) : insL b (k + 1) = insL b k ++ [PM.ins (chunk b k)] := by
  unfold insL
  rw [List.range_succ, List.map_append]
  rfl
theorem list_lines (b : ByteArray) : ∀ k, (listTo b k).data.toList = linesL (insL b k)
  | 0 => rfl
  | k + 1 => by
    show ((listTo b k ++ (showN (PM.ins (chunk b k)) ++ nl)).data).toList = _
    rw [insL_succ, linesL_append, ByteArray.data_append, ByteArray.data_append, Array.toList_append, Array.toList_append, list_lines b k]
    rfl
theorem codeOf_append : ∀ a b : List PM.Ins, (codeOf (a ++ b)).data.toList = (codeOf a).data.toList ++ (codeOf b).data.toList
  | [], b => rfl
  | i :: a, b => by
    show (codeOf (i :: (a ++ b))).data.toList = _
    rw [code_data, code_data, codeOf_append a b, List.append_assoc]
theorem code_insL (b : ByteArray) : ∀ k, 8 * k ≤ b.size → (codeOf (insL b k)).data.toList = b.data.toList.take (8 * k)
  | 0, _ => by rw [Nat.mul_zero, List.take_zero]; rfl
  | k + 1, h => by
    have h8 := chunk_size b k (by omega)
    rw [insL_succ, codeOf_append, code_insL b k (by omega)]
    have e : (codeOf [PM.ins (chunk b k)]).data.toList = (b.data.toList.drop (8 * k)).take 8 := by
      rw [code_data, PM.bytes_ins _ h8]
      unfold chunk
      rw [Lib.extract_data]
      have : 8 * k + 8 - 8 * k = 8 := by omega
      rw [this]
      show _ ++ [] = _
      rw [List.append_nil]
    rw [e, ← List.take_add]
    congr 1
theorem lines_count : ∀ l : List PM.Ins, (linesL l).count 10 = l.length
  | [] => rfl
  | i :: l => by
    show ((showN i).data.toList ++ 10 :: linesL l).count 10 = _
    rw [List.count_append, count_no _ (show_no10 i), List.count_cons, lines_count l]
    simp
/-- Assemble of what List made is the bytes -/
theorem asm_list (b : ByteArray) (h : (listN b).2 = 0) : asmN (listN b).1 = (b, 0) := by
  unfold listN at h ⊢
  by_cases h1 : 512 < b.size / 8
  · rw [if_pos h1] at h; cases h
  · rw [if_neg h1] at h ⊢
    by_cases h2 : b.size % 8 ≠ 0
    · rw [if_pos h2] at h; cases h
    · rw [if_neg h2]
      simp only
      have hK : b.size = 8 * (b.size / 8) := by omega
      obtain ⟨K, hKe⟩ : ∃ K, K = b.size / 8 := ⟨_, rfl⟩
      rw [← hKe] at hK h1 ⊢
      have hfl : ∀ i ∈ insL b K, i.fits := by
        intro i hi
        unfold insL at hi
        obtain ⟨j, hj, rfl⟩ := List.mem_map.1 hi
        exact PM.ins_fits _ (chunk_size b j (by have := List.mem_range.1 hj; omega))
      have hll := list_lines b K
      have hlen : (insL b K).length = K := by simp [insL]
      have hcount : Lib.countByte (listTo b K).data.toList 10 = K := by
        show List.count 10 _ = _
        rw [hll, lines_count, hlen]
      have hge : K ≤ (listTo b K).size := by
        rw [Lib.size_eq]
        have : List.count 10 (listTo b K).data.toList ≤ (listTo b K).data.toList.length := List.count_le_length
        have h3 : List.count 10 (listTo b K).data.toList = K := hcount
        omega
      have ha := asm_of_lines (insL b K) hfl ((listTo b K).size + 1) (listTo b K) hll (by omega)
      unfold asmN
      rw [hcount, if_neg (by omega), ha]
      simp only
      congr 1
      apply str_data
      rw [code_insL b K (by omega)]
      apply List.take_of_length_le
      rw [← Lib.size_eq]
      omega
end Go.Proofs.YtklobjfhjlkgfaaDoor.TW
/- The reference's Said: the number that digits say. -/
namespace Go.Proofs.YtklobjfhjlkgfaaDoor.TW
open Go.RowKit
set_option linter.unusedVariables false
set_option maxRecDepth 100000
set_option linter.unusedSimpArgs false

def byteAt (s : ByteArray) (k : Nat) : Nat := (s.data.toList.getD k 0).toNat
/-- the number behind the first k signs, not yet turned -/
def saidTo (s : ByteArray) : Nat → Option Int
  | 0 => some 0
  | k + 1 => match saidTo s k with
    | none => none
    | some n => if k = 0 ∧ byteAt s 0 = 45 then some n
      else if byteAt s k < 48 ∨ 57 < byteAt s k then none
      else some (wrap64 (wrap64 (10 * n) - ((byteAt s k : Int) - 48)))
def turnN (s : ByteArray) (n : Int) : Int := if s.size = 0 ∨ byteAt s 0 ≠ 45 then wrap64 (-n) else n
/-- what Said answers -/
def saidN (s : ByteArray) : Int × Bool := if 20 < s.size then (0, false) else match saidTo s s.size with
  | none => (0, false)
  | some n => (turnN s n, decide (itoaS (turnN s n) = s))
theorem saidTo_none {s : ByteArray} {k : Nat} (h : saidTo s k = none) : ∀ n, k ≤ n → saidTo s n = none
  | 0, hn => by obtain rfl : k = 0 := by omega
                exact h
  | n + 1, hn => by
    by_cases e : k = n + 1
    · subst e; exact h
    · simp only [saidTo]
      rw [saidTo_none h n (by omega)]
theorem byteAt_eq (s : ByteArray) (k : Nat) (h : k < s.size) : s[k].toNat = byteAt s k := by
  unfold byteAt
  have h' : k < s.data.toList.length := by rw [← Lib.size_eq]; exact h
  rw [List.getD_eq_getElem?_getD, List.getElem?_eq_getElem h']
  rfl
theorem wrap_i64 (x : Int) : I64 (wrap64 x) := by unfold I64 wrap64; omega
theorem said_i64 {s : ByteArray} : ∀ {k : Nat} {n : Int}, saidTo s k = some n → I64 n
  | 0, n, h => by simp only [saidTo] at h; injection h with h; subst h; unfold I64; omega
  | k + 1, n, h => by
    cases e : saidTo s k with
    | none => rw [saidTo_none e (k + 1) (by omega)] at h; cases h
    | some m =>
      simp only [saidTo] at h
      rw [e] at h
      simp only at h
      split at h
      · injection h with h
        subst h
        exact said_i64 e
      · split at h
        · cases h
        · injection h with h
          subst h
          exact wrap_i64 _
set_option maxHeartbeats 600000 in
theorem said_any (s : ByteArray) (w : World) (hs : s.size ≤ 140737488351232) : Calls Tryd.prog 49 #[.string s] w fun e w' => e = .returned (.tuple #[.int .i64 (saidN s).1, .bool (saidN s).2]) ∧ Below w.heap.size w w' := by
  by_cases h20 : 20 < s.size
  · have HS : Hid (saidN s = (0, false)) := by show _ = _; unfold saidN; rw [if_pos h20]
    rw [HS.out]
    clear HS
    go_enter Tryd.func49, Tryd.ntmps49
    go_wp2
    go_ret2
    exact ⟨rfl, Below.refl _ _⟩
  · have HS : Hid (saidN s = match saidTo s s.size with
      | none => (0, false)
      | some n => (turnN s n, decide (itoaS (turnN s n) = s))) := by show _ = _; unfold saidN; rw [if_neg h20]
    obtain ⟨⟨r1, r2⟩, hR⟩ : ∃ R, R = saidN s := ⟨_, rfl⟩
    rw [← hR] at HS ⊢
    clear hR
    simp only
    have h20' : s.size ≤ 20 := by omega
    clear h20
    go_enter Tryd.func49, Tryd.ntmps49
    go_wp2
    go_loop [5, 4] (fun i nv => ∃ (k : Nat) (n : Int), k ≤ s.size ∧ i = .int .i64 k ∧ nv = .int .i64 n ∧ saidTo s k = some n) (fun i _ => s.size - (intOf i).toNat)
    case atStart => exact ⟨0, 0, by omega, rfl, rfl, rfl⟩
    case round =>
      obtain ⟨k, n, hk, rfl, rfl, hst⟩ := hrel
      have HST := hideC hst
      clear hst
      by_cases hlt : k < s.size
      · have hby := byteAt_eq s k hlt
        have hb8 : s[k].toNat < 256 := s[k].toNat_lt
        have HNX : Hid (saidTo s (k + 1) = if k = 0 ∧ byteAt s 0 = 45 then some n else if byteAt s k < 48 ∨ 57 < byteAt s k then none else some (wrap64 (wrap64 (10 * n) - ((byteAt s k : Int) - 48)))) := by
          show _ = _
          simp only [saidTo]
          rw [HST.out]
        by_cases c1 : k = 0 ∧ byteAt s 0 = 45
        · have HX := HNX.out
          rw [if_pos c1] at HX
          have HY := hideC HX
          obtain ⟨rfl, c2⟩ := c1
          have h45 : (s[0].toNat : Int) = 45 := by rw [hby]; omega
          clear HX HNX hby c2
          go_wp2
          go_round
          case rel => exact ⟨1, n, by omega, by go_num, rfl, HY.out⟩
          case measure => simp [intOf]; omega
        · have HX := HNX.out
          rw [if_neg c1] at HX
          have hz0 : k = 0 → byteAt s 0 = s[k].toNat := fun e => by rw [hby, e]
          rw [← hby] at HX
          have HX2 := hideC HX
          have HNO : Hid (saidTo s (k + 1) = none → (r1, r2) = (0, false)) := fun e => by
            have e2 := saidTo_none e s.size (by omega)
            rw [HS.out, e2]
          have hcase : ((k : Int) == 0) = false ∨ (((k : Int) == 0) = true ∧ ((s[k].toNat : Int) == 45) = false) := by
            by_cases e : k = 0
            · refine .inr ⟨by simp [e], ?_⟩
              have h9 := hz0 e
              have h8 : ¬ byteAt s 0 = 45 := fun g => c1 ⟨e, g⟩
              rw [beq_eq_false_iff_ne]
              omega
            · exact .inl (by rw [beq_eq_false_iff_ne]; omega)
          clear HNX hby c1 hz0 HX
          by_cases e3 : s[k].toNat < 48
          · have HN := HX2.out
            rw [if_pos (.inl e3)] at HN
            obtain ⟨rfl, rfl⟩ := Prod.mk.inj (HNO.out HN)
            have e3' : (s[k].toNat : Int) < 48 := by omega
            clear HN HNO HX2 HS
            rcases hcase with q | ⟨q, q2⟩
            all_goals
              go_wp2
              go_ret2
              exact ⟨rfl, Below.refl _ _⟩
          · have e3' : ¬ (s[k].toNat : Int) < 48 := by omega
            by_cases e4 : 57 < s[k].toNat
            · have HN := HX2.out
              rw [if_pos (.inr e4)] at HN
              obtain ⟨rfl, rfl⟩ := Prod.mk.inj (HNO.out HN)
              have e4' : (57 : Int) < (s[k].toNat : Int) := by omega
              clear HN HNO HX2 HS
              rcases hcase with q | ⟨q, q2⟩
              all_goals
                go_wp2
                go_ret2
                exact ⟨rfl, Below.refl _ _⟩
            · have HN := HX2.out
              rw [if_neg (by omega)] at HN
              have HY := hideC HN
              have e4' : ¬ (57 : Int) < (s[k].toNat : Int) := by omega
              clear HN HNO HX2
              rcases hcase with q | ⟨q, q2⟩
              all_goals
                go_wp2
                go_round
                case rel => exact ⟨k + 1, _, by omega, by go_num, rfl, HY.out⟩
                case measure => simp [intOf]; omega
      · obtain rfl : k = s.size := by omega
        have HS2 := HS.out
        rw [HST.out] at HS2
        simp only at HS2
        obtain ⟨h1, h2⟩ := Prod.mk.inj HS2
        have hni := said_i64 HST.out
        have hr1 : I64 r1 := by rw [h1]; unfold turnN; split; exact wrap_i64 _; exact hni
        have HD := hideC (digits_any r1 hr1.1 hr1.2)
        have H2 : Hid (r2 = decide (itoaS r1 = s)) := by rw [h1]; exact h2
        have H1 := hideC h1
        clear HS2 h2 HS HST h1 hr1 hni h20'
        obtain ⟨DD, hDD⟩ : ∃ DD, DD = itoaS r1 := ⟨_, rfl⟩
        rw [← hDD] at HD H2
        have H3 : Hid ((DD.toList == s.toList) = r2) := by show _ = _; rw [H2.out]; exact str_eqT _ _
        clear hDD H2
        by_cases c0 : s.size = 0
        · have e1 : r1 = wrap64 (-n) := by rw [H1.out]; unfold turnN; rw [if_pos (.inl c0)]
          have c0' : (s.size : Int) = 0 := by omega
          clear H1
          rw [e1] at HD
          have HE1 := hideC e1
          clear e1
          go_wp2_with fail
          refine (HD.out _).mono ?_
          rintro e w1 ⟨rfl, hb1⟩
          have HB1 := hideC hb1
          clear hb1
          go_wp2
          go_ret2
          exact ⟨by rw [HE1.out, ← H3.out]; rfl, HB1.out⟩
        · have hb0 := byteAt_eq s 0 (by omega)
          have c0' : ((s.size : Int) == 0) = false := by rw [beq_eq_false_iff_ne]; omega
          have hps : (0 : Int) < (s.size : Int) := by omega
          have hps2 : 0 < s.size := by omega
          by_cases c1 : byteAt s 0 = 45
          · have e1 : r1 = n := by rw [H1.out]; unfold turnN; rw [if_neg (by omega)]
            have h45 : (s[0].toNat : Int) = 45 := by omega
            clear H1 hb0 c1
            rw [e1] at HD
            have HE1 := hideC e1
            clear e1
            go_wp2_with fail
            refine (HD.out _).mono ?_
            rintro e w1 ⟨rfl, hb1⟩
            have HB1 := hideC hb1
            clear hb1
            go_wp2
            go_ret2
            exact ⟨by rw [HE1.out, ← H3.out]; rfl, HB1.out⟩
          · have e1 : r1 = wrap64 (-n) := by rw [H1.out]; unfold turnN; rw [if_pos (.inr c1)]
            have h45 : ((s[0].toNat : Int) == 45) = false := by rw [beq_eq_false_iff_ne]; omega
            clear H1 hb0 c1
            rw [e1] at HD
            have HE1 := hideC e1
            clear e1
            go_wp2_with fail
            refine (HD.out _).mono ?_
            rintro e w1 ⟨rfl, hb1⟩
            have HB1 := hideC hb1
            clear hb1
            go_wp2
            go_ret2
            exact ⟨by rw [HE1.out, ← H3.out]; rfl, HB1.out⟩
end Go.Proofs.YtklobjfhjlkgfaaDoor.TW
/- The reference's parts: a text, cut at its blanks; eight at most. -/
namespace Go.Proofs.YtklobjfhjlkgfaaDoor.TW
open Go.RowKit
set_option linter.unusedVariables false
set_option maxRecDepth 100000
set_option linter.unusedSimpArgs false

/-- what is cut behind the first k places, and where the next one begins -/
def cutsTo (s : ByteArray) : Nat → List ByteArray × Nat
  | 0 => ([], 0)
  | k + 1 => if (cutsTo s k).1.length < 8 ∧ (k = s.size ∨ byteAt s k = 32) then ((cutsTo s k).1 ++ [s.extract (cutsTo s k).2 k], k + 1) else cutsTo s k
def cutsN (s : ByteArray) : List ByteArray := (cutsTo s (s.size + 1)).1
theorem cuts_from (s : ByteArray) : ∀ k, (cutsTo s k).2 ≤ k
  | 0 => Nat.le_refl _
  | k + 1 => by
    have := cuts_from s k
    unfold cutsTo
    split
    · exact Nat.le_refl _
    · omega
theorem cuts_le (s : ByteArray) : ∀ k, (cutsTo s k).1.length ≤ 8
  | 0 => by show 0 ≤ 8; omega
  | k + 1 => by
    have := cuts_le s k
    unfold cutsTo
    split
    · rename_i h
      rw [List.length_append]
      show _ + 1 ≤ 8
      omega
    · exact this
theorem cuts_yes {s : ByteArray} {k : Nat} (h1 : (cutsTo s k).1.length < 8) (h2 : k = s.size ∨ byteAt s k = 32) : cutsTo s (k + 1) = ((cutsTo s k).1 ++ [s.extract (cutsTo s k).2 k], k + 1) := by rw [cutsTo, if_pos ⟨h1, h2⟩]
theorem cuts_no {s : ByteArray} {k : Nat} (h : ¬ (k = s.size ∨ byteAt s k = 32)) : cutsTo s (k + 1) = cutsTo s k := by rw [cutsTo, if_neg (fun g => h g.2)]
theorem cuts_full {s : ByteArray} {k : Nat} (h : ¬ (cutsTo s k).1.length < 8) : ∀ n, k ≤ n → cutsTo s n = cutsTo s k
  | 0, hn => by obtain rfl : k = 0 := by omega
                rfl
  | n + 1, hn => by
    by_cases e : k = n + 1
    · subst e; rfl
    · have ih := cuts_full h n (by omega)
      rw [cutsTo, ih, if_neg (fun g => h g.1)]
theorem own_slice {w : World} {base : Nat} {e : TypeId} {v : Value} {n : Nat} {xs : List Value} (h : w.ownsRow base e 1 v n xs) : ∃ a c, v = .slice a n c := by
  rcases h.2 with ⟨rfl, h0⟩ | ⟨g, cap, cur, rfl, _⟩
  · exact ⟨none, 0, by rw [h0]⟩
  · exact ⟨_, _, rfl⟩
set_option maxHeartbeats 4000000 in
theorem parts_any (s : ByteArray) (w : World) (hs : s.size < 4294967281) : Calls Tryd.prog 30 #[.string s] w fun e w' => ∃ v, e = .returned v ∧ w'.ownsRow w.heap.size 9 1 v (cutsN s).length ((cutsN s).map Value.string) ∧ Below w.heap.size w w' := by
  have HCF := hideC (cuts_from s)
  have HCL := hideC (cuts_le s)
  have HN : Hid (cutsN s = (cutsTo s (s.size + 1)).1) := rfl
  have HY : Hid (∀ k, (cutsTo s k).1.length < 8 → (k = s.size ∨ byteAt s k = 32) → cutsTo s (k + 1) = ((cutsTo s k).1 ++ [s.extract (cutsTo s k).2 k], k + 1)) := fun k h1 h2 => cuts_yes h1 h2
  have HNO : Hid (∀ k, ¬ (k = s.size ∨ byteAt s k = 32) → cutsTo s (k + 1) = cutsTo s k) := fun k h => cuts_no h
  have HFU : Hid (∀ k, ¬ (cutsTo s k).1.length < 8 → ∀ n, k ≤ n → cutsTo s n = cutsTo s k) := fun k h => cuts_full h
  obtain ⟨R, hR⟩ : ∃ R, R = cutsN s := ⟨_, rfl⟩
  rw [← hR] at HN ⊢
  clear hR
  obtain ⟨i0, hi0, hz0, hz1, hz2⟩ := info_parts infoS
  have HO0 := hideC (World.ownsRow_nil w w.heap.size 9 1)
  go_enter Tryd.func30, Tryd.ntmps30
  go_wp2
  go_loopw [3, 4, 5] (fun ov fv iv wr => ∃ (k f n : Nat) (C : List ByteArray) (a : Option Addr) (c : Nat), k ≤ s.size + 1 ∧ cutsTo s k = (C, f) ∧ C.length = n ∧ iv = .int .i64 (k : Int) ∧ fv = .int .i64 (f : Int) ∧ ov = .slice a n c ∧ wr.ownsRow w.heap.size 9 1 (.slice a n c) n (C.map Value.string) ∧ Below w.heap.size w wr) (fun _ _ iv _ => s.size + 1 - (intOf iv).toNat)
  case atStart => exact ⟨0, 0, 0, [], none, 0, by omega, rfl, rfl, rfl, rfl, rfl, HO0.out, Below.refl _ _⟩
  case round =>
    obtain ⟨k, f, n, C, a, c, hk, hct, hcn, rfl, rfl, rfl, how, hb⟩ := hrel
    have HCT := hideC hct
    have HCN := hideC hcn
    have HO := hideC how
    have HB := hideC hb
    have hff := HCF.out k
    have hn8 := HCL.out k
    have hyy := HY.out k
    have hno := HNO.out k
    have hfu := HFU.out k
    rw [hct] at hff hn8 hyy hno hfu
    simp only at hff hn8 hyy hno hfu
    rw [hcn] at hn8 hyy hfu
    have HYY := hideC hyy
    have HNN := hideC hno
    have HFF := hideC hfu
    clear hct hcn how hb hyy hno hfu HO0
    by_cases h1 : k ≤ s.size
    · have h1i : (k : Int) ≤ (s.size : Int) := by omega
      by_cases h2 : n < 8
      · have h2i : (n : Int) < 8 := by omega
        by_cases h3 : k = s.size
        · have HX := hideC (HYY.out h2 (.inl h3))
          have h3i : ((k : Int) == (s.size : Int)) = true := by rw [beq_iff_eq]; omega
          clear h3
          go_wp2_with (at_builtin; refine wpList_append_own _ rfl _ _ 50 rfl w.heap.size 9 i0 (.string ByteArray.empty) 1 16 Tryd.underlying50 hi0 hz0 hz1 hz2 rfl (by decide) _ _ _ rfl (HO.out.alloc _) ⟨wr.heap.size, 0, none⟩ 1 1 [.string (s.extract f k)] rfl rfl (cell_one_new _ _ _) (by simp [Value.oneCell']) (by unfold maxLen; omega) (by omega) (by have := HB.out.size; simp; omega) ?_; intro v5 w5 ho5 hg5 _; replace hg5 : (wr.alloc (.cells #[.string (s.extract f k)] 9)).grownBy w5 (Value.slice a n c).ownBlock := hg5; have HG5 := hideC hg5; have HO5 := hideC ho5; clear hg5 ho5)
          obtain ⟨a5, c5, hv5⟩ := own_slice HO5.out
          have RB := hideC ((HB.out.alloc HB.out.size _).grown HG5.out (by have := HB.out.size; simp; omega) (fun j hj => own_base HO.out j hj))
          go_roundw
          case rel => exact ⟨k + 1, k + 1, n + 1, C ++ [s.extract f k], a5, c5, by omega, HX.out, by rw [List.length_append, HCN.out]; rfl, by go_num, by go_num, hv5, by rw [List.map_append, ← hv5]; exact HO5.out, RB.out⟩
          case measure => simp [intOf]; omega
        · have h3i : ((k : Int) == (s.size : Int)) = false := by rw [beq_eq_false_iff_ne]; omega
          have hlt : k < s.size := by omega
          have hby := byteAt_eq s k hlt
          by_cases h4 : byteAt s k = 32
          · have HX := hideC (HYY.out h2 (.inr h4))
            have h4i : ((s[k].toNat : Int) == 32) = true := by rw [beq_iff_eq]; omega
            clear h3 h4 hby
            go_wp2_with (at_builtin; refine wpList_append_own _ rfl _ _ 50 rfl w.heap.size 9 i0 (.string ByteArray.empty) 1 16 Tryd.underlying50 hi0 hz0 hz1 hz2 rfl (by decide) _ _ _ rfl (HO.out.alloc _) ⟨wr.heap.size, 0, none⟩ 1 1 [.string (s.extract f k)] rfl rfl (cell_one_new _ _ _) (by simp [Value.oneCell']) (by unfold maxLen; omega) (by omega) (by have := HB.out.size; simp; omega) ?_; intro v5 w5 ho5 hg5 _; replace hg5 : (wr.alloc (.cells #[.string (s.extract f k)] 9)).grownBy w5 (Value.slice a n c).ownBlock := hg5; have HG5 := hideC hg5; have HO5 := hideC ho5; clear hg5 ho5)
            obtain ⟨a5, c5, hv5⟩ := own_slice HO5.out
            have RB := hideC ((HB.out.alloc HB.out.size _).grown HG5.out (by have := HB.out.size; simp; omega) (fun j hj => own_base HO.out j hj))
            go_roundw
            case rel => exact ⟨k + 1, k + 1, n + 1, C ++ [s.extract f k], a5, c5, by omega, HX.out, by rw [List.length_append, HCN.out]; rfl, by go_num, by go_num, hv5, by rw [List.map_append, ← hv5]; exact HO5.out, RB.out⟩
            case measure => simp [intOf]; omega
          · have HX := hideC (HNN.out (fun g => g.elim h3 h4))
            have h4i : ((s[k].toNat : Int) == 32) = false := by rw [beq_eq_false_iff_ne]; omega
            clear h3 h4 hby
            go_wp2
            go_roundw
            case rel => exact ⟨k + 1, f, n, C, a, c, by omega, HX.out, HCN.out, by go_num, rfl, rfl, HO.out, HB.out⟩
            case measure => simp [intOf]; omega
      · have h2i : decide ((n : Int) < 8) = false := by simp; omega
        have HRE : Hid (R = C) := by show _ = _; rw [HN.out, HFF.out h2 (s.size + 1) (by omega)]
        clear h2
        go_wp2
        go_ret
        exact ⟨_, rfl, by rw [HRE.out, HCN.out]; exact HO.out, HB.out⟩
    · have h1i : decide ((k : Int) ≤ (s.size : Int)) = false := by simp; omega
      have h1n : decide (k ≤ s.size) = false := by simp; omega
      have HRE : Hid (R = C) := by
        show _ = _
        have e : k = s.size + 1 := by omega
        rw [HN.out, ← e, HCT.out]
      clear h1
      go_wp2
      go_ret
      exact ⟨_, rfl, by rw [HRE.out, HCN.out]; exact HO.out, HB.out⟩
end Go.Proofs.YtklobjfhjlkgfaaDoor.TW
