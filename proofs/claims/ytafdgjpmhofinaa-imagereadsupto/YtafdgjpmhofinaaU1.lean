/- The reference's reader. -/
import Derived.Test.YtafdgjpmhofinaaT5
namespace Go.Proofs.Ytafdgjpmhofinaa.W
open Go.RowKit
set_option linter.unusedVariables false

/-- the eye at block p: what it has to read yet; none: it is bad -/
def Eye (p : Nat) (w : World) (o : Option (List UInt8)) : Prop := ∃ (s : ByteArray) (b : Bool), w.heap[p]? = some (.cells #[.string s, .bool b] 67 (0, 0)) ∧ s.size ≤ 1048576 ∧ match o with
  | some l => b = false ∧ s.data.toList = l
  | none => b = true
theorem Eye.lt {p : Nat} {w : World} {o : Option (List UInt8)} (h : Eye p w o) : p < w.heap.size := let ⟨_, _, h, _⟩ := h; B.isLt h
theorem Eye.keep {p : Nat} {w w' : World} {o : Option (List UInt8)} (h : Eye p w o) (hb : Below w.heap.size w w') : Eye p w' o := by
  obtain ⟨s, b, h1, h2⟩ := h
  exact ⟨s, b, B.below h1 hb (B.isLt h1), h2⟩
theorem Frm.setP {p : Nat} {w W : World} (h : Frm p w none W none) (j : Nat) (v : Value) : Frm p w none (W.setCell ⟨p, j, none⟩ v) none :=
  ⟨h.below.setCell (Nat.le_refl _) v, fun b hb hbp hbr => by rw [heap_setCell_other W ⟨p, j, none⟩ b v hbp]; exact h.block b hb hbp hbr, .inl rfl⟩
/-- how a method of the eye ends: the value, and what is left -/
def numE : Option (List UInt8) → Int × Option (List UInt8)
  | none => (0, none)
  | some l => match numP l with
    | none => (0, none)
    | some (n, l') => (n, some l')
def countE (o : Option (List UInt8)) : Int × Option (List UInt8) := match numE o with
  | (_, none) => (0, none)
  | (n, some l) => if 0 ≤ n ∧ n ≤ (l.length : Int) then (n, some l) else (0, none)
def textE (o : Option (List UInt8)) : ByteArray × Option (List UInt8) := match countE o with
  | (_, none) => (⟨#[]⟩, none)
  | (n, some l) => (⟨(l.take n.toNat).toArray⟩, some (l.drop n.toNat))
def truthE (o : Option (List UInt8)) : Bool × Option (List UInt8) := match numE o with
  | (n, none) => (n == 1, none)
  | (n, some l) => (n == 1, if n = 0 ∨ n = 1 then some l else none)

theorem numE_some {l l' : List UInt8} {n : Int} (h : numP l = some (n, l')) : numE (some l) = (n, some l') := by
  unfold numE
  simp only [h]
theorem numE_none {l : List UInt8} (h : numP l = none) : numE (some l) = (0, none) := by
  unfold numE
  simp only [h]
theorem drop_extract (s : ByteArray) (k : Nat) : (s.extract k s.size).data.toList = s.data.toList.drop k := by
  rw [ByteArray.data_extract]
  simp only [Array.toList_extract, List.extract_eq_take_drop]
  exact List.take_of_length_le (by rw [List.length_drop, ← Lib.size_eq]; exact Nat.le_refl _)

set_option maxRecDepth 100000 in
set_option maxHeartbeats 1500000 in
theorem number_eye (p : Nat) (o : Option (List UInt8)) (w : World) (h : Eye p w o) :
    Calls Try.prog 38 #[.pointer (some ⟨p, 0, none⟩)] w fun e w' => e = .returned (.int .i64 (numE o).1) ∧ Eye p w' (numE o).2 ∧ Frm p w none w' none := by
  have hpl := h.lt
  obtain ⟨s, b, hp, hs, ho⟩ := h
  have hml : s.size ≤ maxLen := by unfold maxLen; omega
  have c0 := B.cell hp 0 rfl
  have c1 := B.cell hp 1 rfl
  have cf := B.free hp
  have HP := hideC hp
  have HF : Hid (∀ j v, Frm p w none (w.setCell ⟨p, j, none⟩ v) none) := fun j v => (Frm.refl p w none).setP j v
  clear hp
  cases o with
  | none =>
    simp only at ho
    subst ho
    have HS := hideC (B.set HP.out 1 (.bool true))
    go_enter Try.func38, Try.ntmps38
    go_wp2
    go_ret
    exact ⟨rfl, ⟨s, true, HS.out, hs, rfl⟩, HF.out _ _⟩
  | some l =>
    simp only at ho
    obtain ⟨hb, hl⟩ := ho
    subst hb
    cases e1 : numP l with
    | none =>
      have h8 : (s.size : Int) < 8 := by
        have hlen : l.length = s.size := by rw [← hl]; exact (Lib.size_eq s).symm
        unfold numP at e1
        by_cases c : 8 ≤ l.length
        · rw [if_pos c] at e1; cases e1
        · omega
      have HS := hideC (B.set HP.out 1 (.bool true))
      rw [numE_none e1]
      go_enter Try.func38, Try.ntmps38
      go_wp2
      go_ret
      exact ⟨rfl, ⟨s, true, HS.out, hs, rfl⟩, HF.out _ _⟩
    | some r =>
      obtain ⟨n, l'⟩ := r
      obtain ⟨_, h2, h3, h4⟩ := numP_some e1
      have hlen : l.length = s.size := by rw [← hl]; exact (Lib.size_eq s).symm
      have h8 : ¬ (s.size : Int) < 8 := by omega
      have h8' : 8 ≤ s.size := by omega
      have HX : Hid ((s.extract 0 8).data.toList = l.take 8) := by
        show _ = _
        have := ext_take s 0 8
        rw [Nat.zero_add] at this
        rw [this, ← hl]
        simp
      have HX8 : Hid ((s.extract 0 8).size = 8) := by
        show _ = _
        rw [Lib.size_eq, HX.out]
        simp
        omega
      have HN : Hid (∀ W, Calls Try.prog 58 #[.string (s.extract 0 8)] W fun e w' => e = .returned (.int .i64 n) ∧ W = w') := fun W => by
        have h := V.number_any (s.extract 0 8) W (by rw [HX8.out]; omega) (by rw [HX8.out]; omega)
        rw [HX.out, ← h3] at h
        exact h
      obtain ⟨T, hT⟩ : ∃ T, T = s.extract 8 s.size := ⟨_, rfl⟩
      have HTL : Hid (T.data.toList = l') := by show _ = _; rw [hT, drop_extract, hl, h4]
      have HTS : Hid (T.size ≤ 1048576) := by
        show _ ≤ _
        rw [Lib.size_eq, HTL.out, h4, List.length_drop]
        omega
      have HS := hideC (B.set HP.out 0 (.string T))
      rw [numE_some e1]
      clear e1 h3 h4 h2
      go_enter Try.func38, Try.ntmps38
      go_wp2_with (go_at_call 58; refine (HN.out _).mono ?_; rintro e w' ⟨rfl, rfl⟩)
      rw [← hT]
      go_ret
      exact ⟨rfl, ⟨T, false, HS.out, HTS.out, rfl, HTL.out⟩, HF.out _ _⟩

theorem countE_none {o : Option (List UInt8)} (h : (numE o).2 = none) : countE o = (0, none) := by
  unfold countE
  cases hn : numE o with
  | mk n r =>
    rw [hn] at h
    simp only at h
    subst h
    rfl
theorem countE_some {o : Option (List UInt8)} {n : Int} {l : List UInt8} (h : numE o = (n, some l)) : countE o = if 0 ≤ n ∧ n ≤ (l.length : Int) then (n, some l) else (0, none) := by
  unfold countE
  simp only [h]
theorem numE_bad {o : Option (List UInt8)} (h : (numE o).2 = none) : (numE o).1 = 0 := by
  cases o with
  | none => rfl
  | some l =>
    cases e : numP l with
    | none => rw [numE_none e]
    | some r =>
      obtain ⟨n, l'⟩ := r
      rw [numE_some e] at h
      cases h

set_option maxRecDepth 100000 in
set_option maxHeartbeats 1500000 in
theorem count_eye (p : Nat) (o : Option (List UInt8)) (w : World) (h : Eye p w o) :
    Calls Try.prog 37 #[.pointer (some ⟨p, 0, none⟩)] w fun e w' => e = .returned (.int .i64 (countE o).1) ∧ Eye p w' (countE o).2 ∧ Frm p w none w' none := by
  have HC := hideC (number_eye p o w h)
  clear h
  cases hn : numE o with
  | mk n r =>
    rw [hn] at HC
    cases r with
    | none =>
      have hbad : (numE o).2 = none := by rw [hn]
      have h0 := numE_bad hbad
      rw [hn] at h0
      simp only at h0
      subst h0
      rw [countE_none hbad]
      clear hbad hn
      go_enter Try.func37, Try.ntmps37
      go_wp2_with (go_at_call 38; refine HC.out.mono ?_; rintro e w1 ⟨rfl, hey, hf⟩; have HE := hideC hey; have HF := hideC hf; obtain ⟨s, b, hp, hs, ho⟩ := hey; simp only at ho; subst ho; have hml : s.size ≤ maxLen := (by unfold maxLen; omega); have c0 := B.cell hp 0 rfl; have c1 := B.cell hp 1 rfl; clear hf hp)
      go_ret
      exact ⟨rfl, HE.out, HF.out⟩
    | some l =>
      rw [countE_some hn]
      clear hn
      by_cases hc : 0 ≤ n ∧ n ≤ (l.length : Int)
      · rw [if_pos hc]
        obtain ⟨hc1, hc2⟩ := hc
        have hn0 : ¬ n < 0 := by omega
        go_enter Try.func37, Try.ntmps37
        go_wp2_with (go_at_call 38; refine HC.out.mono ?_; rintro e w1 ⟨rfl, hey, hf⟩; have HE := hideC hey; have HF := hideC hf; obtain ⟨s, b, hp, hs, ho⟩ := hey; simp only at ho; obtain ⟨hb, hl⟩ := ho; subst hb; have hml : s.size ≤ maxLen := (by unfold maxLen; omega); have hlen : l.length = s.size := (by rw [← hl]; exact (Lib.size_eq s).symm); have hns : ¬ (s.size : Int) < n := (by omega); have c0 := B.cell hp 0 rfl; have c1 := B.cell hp 1 rfl; clear hf hp hl hlen hc2)
        go_ret
        exact ⟨rfl, HE.out, HF.out⟩
      · rw [if_neg hc]
        by_cases hn0 : n < 0
        · go_enter Try.func37, Try.ntmps37
          go_wp2_with (go_at_call 38; refine HC.out.mono ?_; rintro e w1 ⟨rfl, hey, hf⟩; have HF := hideC hf; obtain ⟨s, b, hp, hs, ho⟩ := hey; simp only at ho; obtain ⟨hb, hl⟩ := ho; subst hb; have hml : s.size ≤ maxLen := (by unfold maxLen; omega); have c0 := B.cell hp 0 rfl; have c1 := B.cell hp 1 rfl; have cf := B.free hp; have HS := hideC (B.set hp 1 (.bool true)); clear hf hp hl)
          go_ret
          exact ⟨rfl, ⟨s, true, HS.out, hs, rfl⟩, HF.out.setP _ _⟩
        · go_enter Try.func37, Try.ntmps37
          go_wp2_with (go_at_call 38; refine HC.out.mono ?_; rintro e w1 ⟨rfl, hey, hf⟩; have HF := hideC hf; obtain ⟨s, b, hp, hs, ho⟩ := hey; simp only at ho; obtain ⟨hb, hl⟩ := ho; subst hb; have hml : s.size ≤ maxLen := (by unfold maxLen; omega); have hlen : l.length = s.size := (by rw [← hl]; exact (Lib.size_eq s).symm); have hns : (s.size : Int) < n := (by omega); have c0 := B.cell hp 0 rfl; have c1 := B.cell hp 1 rfl; have cf := B.free hp; have HS := hideC (B.set hp 1 (.bool true)); clear hf hp hl hlen)
          go_ret
          exact ⟨rfl, ⟨s, true, HS.out, hs, rfl⟩, HF.out.setP _ _⟩

theorem countE_parts (o : Option (List UInt8)) : countE o = (0, none) ∨ ∃ n : Nat, ∃ l : List UInt8, countE o = ((n : Int), some l) ∧ n ≤ l.length := by
  cases hn : numE o with
  | mk n r =>
    cases r with
    | none => exact .inl (countE_none (by rw [hn]))
    | some l =>
      rw [countE_some hn]
      by_cases hc : 0 ≤ n ∧ n ≤ (l.length : Int)
      · rw [if_pos hc]
        exact .inr ⟨n.toNat, l, by rw [Int.toNat_of_nonneg hc.1], by omega⟩
      · rw [if_neg hc]
        exact .inl rfl
theorem textE_none {o : Option (List UInt8)} (h : countE o = (0, none)) : textE o = (⟨#[]⟩, none) := by
  unfold textE
  simp only [h]
theorem textE_some {o : Option (List UInt8)} {n : Nat} {l : List UInt8} (h : countE o = ((n : Int), some l)) : textE o = (⟨(l.take n).toArray⟩, some (l.drop n)) := by
  unfold textE
  simp only [h, Int.toNat_natCast]
theorem truthE_none {o : Option (List UInt8)} {n : Int} (h : numE o = (n, none)) : truthE o = (n == 1, none) := by
  unfold truthE
  simp only [h]
theorem truthE_some {o : Option (List UInt8)} {n : Int} {l : List UInt8} (h : numE o = (n, some l)) : truthE o = (n == 1, if n = 0 ∨ n = 1 then some l else none) := by
  unfold truthE
  simp only [h]

set_option maxRecDepth 100000 in
set_option maxHeartbeats 1500000 in
theorem text_eye (p : Nat) (o : Option (List UInt8)) (w : World) (h : Eye p w o) :
    Calls Try.prog 36 #[.pointer (some ⟨p, 0, none⟩)] w fun e w' => e = .returned (.string (textE o).1) ∧ Eye p w' (textE o).2 ∧ Frm p w none w' none := by
  have HC := hideC (count_eye p o w h)
  clear h
  rcases countE_parts o with hn | ⟨n, l, hn, hnl⟩
  · rw [hn] at HC
    rw [textE_none hn]
    clear hn
    go_enter Try.func36, Try.ntmps36
    go_wp2_with (go_at_call 37; refine HC.out.mono ?_; rintro e w1 ⟨rfl, hey, hf⟩; have HE := hideC hey; have HF := hideC hf; obtain ⟨s, b, hp, hs, ho⟩ := hey; simp only at ho; subst ho; have c1 := B.cell hp 1 rfl; clear hf hp)
    go_ret
    exact ⟨rfl, HE.out, HF.out⟩
  · rw [hn] at HC
    rw [textE_some hn]
    clear hn
    go_enter Try.func36, Try.ntmps36
    go_wp2_with (go_at_call 37; refine HC.out.mono ?_; rintro e w1 ⟨rfl, hey, hf⟩; have HF := hideC hf; obtain ⟨s, b, hp, hs, ho⟩ := hey; simp only at ho; obtain ⟨hb, hl⟩ := ho; subst hb; have hml : s.size ≤ maxLen := (by unfold maxLen; omega); have hlen : l.length = s.size := (by rw [← hl]; exact (Lib.size_eq s).symm); have hns : n ≤ s.size := (by omega); have hni : (n : Int) ≤ (s.size : Int) := (by omega); have c0 := B.cell hp 0 rfl; have c1 := B.cell hp 1 rfl; have cf := B.free hp; have HPP := hideC hp; have HLL := hideC hl; clear hf hp hl hlen)
    go_ret
    refine ⟨congrArg (fun z => Ending.returned (Value.string z)) ?_, ⟨s.extract n s.size, false, B.set HPP.out 0 _, ?_, rfl, ?_⟩, HF.out.setP _ _⟩
    · have h := ext_take s 0 n
      rw [Nat.zero_add, HLL.out] at h
      exact h
    · rw [Lib.size_eq, drop_extract, List.length_drop, ← Lib.size_eq]
      omega
    · rw [drop_extract, HLL.out]

set_option maxRecDepth 100000 in
set_option maxHeartbeats 1500000 in
theorem truth_eye (p : Nat) (o : Option (List UInt8)) (w : World) (h : Eye p w o) :
    Calls Try.prog 39 #[.pointer (some ⟨p, 0, none⟩)] w fun e w' => e = .returned (.bool (truthE o).1) ∧ Eye p w' (truthE o).2 ∧ Frm p w none w' none := by
  have HC := hideC (number_eye p o w h)
  clear h
  cases hn : numE o with
  | mk n r =>
    rw [hn] at HC
    cases r with
    | none =>
      have h0 := numE_bad (o := o) (by rw [hn])
      rw [hn] at h0
      simp only at h0
      subst h0
      rw [truthE_none hn]
      clear hn
      go_enter Try.func39, Try.ntmps39
      go_wp2_with (go_at_call 38; refine HC.out.mono ?_; rintro e w1 ⟨rfl, hey, hf⟩; have HE := hideC hey; have HF := hideC hf; clear hf hey)
      go_ret
      exact ⟨rfl, HE.out, HF.out⟩
    | some l =>
      rw [truthE_some hn]
      clear hn
      by_cases h0 : n = 0
      · subst h0
        go_enter Try.func39, Try.ntmps39
        go_wp2_with (go_at_call 38; refine HC.out.mono ?_; rintro e w1 ⟨rfl, hey, hf⟩; have HE := hideC hey; have HF := hideC hf; clear hf hey)
        go_ret
        exact ⟨rfl, HE.out, HF.out⟩
      · by_cases h1 : n = 1
        · subst h1
          go_enter Try.func39, Try.ntmps39
          go_wp2_with (go_at_call 38; refine HC.out.mono ?_; rintro e w1 ⟨rfl, hey, hf⟩; have HE := hideC hey; have HF := hideC hf; clear hf hey)
          go_ret
          exact ⟨rfl, HE.out, HF.out⟩
        · rw [if_neg (by omega)]
          have g0 : (n != 0) = true := by simpa using h0
          have g1 : (n != 1) = true := by simpa using h1
          have g2 : (n == 1) = false := by simpa using h1
          go_enter Try.func39, Try.ntmps39
          go_wp2_with (go_at_call 38; refine HC.out.mono ?_; rintro e w1 ⟨rfl, hey, hf⟩; have HF := hideC hf; obtain ⟨s, b, hp, hs, ho⟩ := hey; have c0 := B.cell hp 0 rfl; have c1 := B.cell hp 1 rfl; have cf := B.free hp; have HS := hideC (B.set hp 1 (.bool true)); clear hf hp ho)
          go_ret
          exact ⟨ret_bool (by first | rfl | simp [g2]), ⟨s, true, HS.out, hs, rfl⟩, HF.out.setP _ _⟩
end Go.Proofs.Ytafdgjpmhofinaa.W
