/- What the reference reads is what the program reads: plain Lean. -/
import Derived.Test.YtafdgjpmhofinaaU1
namespace Go.Proofs.Ytafdgjpmhofinaa.W
open Go.RowKit
set_option linter.unusedVariables false

def listR {α : Type} (one : List UInt8 → Option (α × List UInt8)) (l : List UInt8) : Option (List α × List UInt8) := match numP l with
  | none => none
  | some (n, l1) => if 0 ≤ n ∧ n ≤ (l1.length : Int) then manyP one n.toNat l1 else none
theorem listR_eq {α : Type} {one : List UInt8 → Option (α × List UInt8)} {n : Int} {l l1 : List UInt8} (e1 : numP l = some (n, l1)) : listR one l = if 0 ≤ n ∧ n ≤ (l1.length : Int) then manyP one n.toNat l1 else none := by
  unfold listR
  simp only [e1]
theorem listR_none {α : Type} {one : List UInt8 → Option (α × List UInt8)} {l : List UInt8} (e1 : numP l = none) : listR one l = none := by
  unfold listR
  simp only [e1]
theorem flat_ge {α : Type} (enc : α → List UInt8) (h : ∀ x, 1 ≤ (enc x).length) : ∀ xs : List α, xs.length ≤ (xs.flatMap enc).length
  | [] => by simp
  | x :: r => by
    rw [List.flatMap_cons, List.length_append, List.length_cons]
    have := flat_ge enc h r
    have := h x
    omega
theorem listR_iff {α : Type} {one : List UInt8 → Option (α × List UInt8)} {F : α → Prop} {enc : α → List UInt8} (h1 : ∀ l l' x, one l = some (x, l') ↔ F x ∧ l = enc x ++ l') (he : ∀ x, 1 ≤ (enc x).length) (l l' : List UInt8) (xs : List α) :
    listR one l = some (xs, l') ↔ M.I64 (xs.length : Int) ∧ (∀ x ∈ xs, F x) ∧ l = num8 xs.length ++ (xs.flatMap enc ++ l') := by
  constructor
  · intro h
    cases e : numP l with
    | none => rw [listR_none e] at h; cases h
    | some r =>
      obtain ⟨n, l1⟩ := r
      rw [listR_eq e] at h
      obtain ⟨a, b⟩ := (num_iff _ _ _).1 e
      by_cases c : 0 ≤ n ∧ n ≤ (l1.length : Int)
      · rw [if_pos c] at h
        obtain ⟨p, q, r⟩ := (many_iff h1 _ _ _ _).1 h
        have hn : (xs.length : Int) = n := by rw [p, Int.toNat_of_nonneg c.1]
        refine ⟨by rw [hn]; exact a, q, ?_⟩
        rw [b, r, hn]
      · rw [if_neg c] at h; cases h
  · rintro ⟨a, b, c⟩
    subst c
    have hl := flat_ge enc he xs
    rw [listR_eq ((num_iff (num8 (xs.length : Int) ++ (xs.flatMap enc ++ l')) _ _).2 ⟨a, rfl⟩), if_pos ⟨by omega, by rw [List.length_append]; omega⟩, Int.toNat_natCast]
    exact (many_iff h1 _ _ _ _).2 ⟨rfl, b, rfl⟩
def imgR (l : List UInt8) : Option (M.Im × List UInt8) := match textP l with
  | none => none
  | some (nm, l1) => match listR textP l1 with
  | none => none
  | some (ns, l2) => match listR segP l2 with
  | none => none
  | some (gs, l3) => match listR symP l3 with
  | none => none
  | some (ys, l4) => match listR relP l4 with
  | none => none
  | some (rs, l5) => match numP l5 with
  | none => none
  | some (en, l6) => some (⟨nm, ns, gs, ys, rs, en⟩, l6)
theorem imgR_eq {l l1 l2 l3 l4 l5 l6 : List UInt8} {nm : ByteArray} {ns : List ByteArray} {gs : List M.Sg} {ys : List M.Sy} {rs : List M.Rl} {en : Int} (e1 : textP l = some (nm, l1)) (e2 : listR textP l1 = some (ns, l2)) (e3 : listR segP l2 = some (gs, l3)) (e4 : listR symP l3 = some (ys, l4)) (e5 : listR relP l4 = some (rs, l5)) (e6 : numP l5 = some (en, l6)) : imgR l = some (⟨nm, ns, gs, ys, rs, en⟩, l6) := by
  unfold imgR
  simp only [e1, e2, e3, e4, e5, e6]
theorem textL_ge (x : ByteArray) : 1 ≤ (textL x).length := by rw [textL_length]; omega
theorem segL_ge (x : M.Sg) : 1 ≤ (segL x).length := by rw [segL_length]; omega
theorem symL_ge (x : M.Sy) : 1 ≤ (symL x).length := by rw [symL_length]; omega
theorem relL_ge (x : M.Rl) : 1 ≤ (relL x).length := by rw [relL_length]; omega
theorem imgR_some {l l' : List UInt8} {i : M.Im} (h : imgR l = some (i, l')) : FitsI i ∧ l = bytesL i ++ l' := by
  unfold imgR at h
  cases e1 : textP l with
  | none => rw [e1] at h; cases h
  | some r1 =>
    obtain ⟨nm, l1⟩ := r1
    rw [e1] at h; simp only at h
    cases e2 : listR textP l1 with
    | none => rw [e2] at h; cases h
    | some r2 =>
      obtain ⟨ns, l2⟩ := r2
      rw [e2] at h; simp only at h
      cases e3 : listR segP l2 with
      | none => rw [e3] at h; cases h
      | some r3 =>
        obtain ⟨gs, l3⟩ := r3
        rw [e3] at h; simp only at h
        cases e4 : listR symP l3 with
        | none => rw [e4] at h; cases h
        | some r4 =>
          obtain ⟨ys, l4⟩ := r4
          rw [e4] at h; simp only at h
          cases e5 : listR relP l4 with
          | none => rw [e5] at h; cases h
          | some r5 =>
            obtain ⟨rs, l5⟩ := r5
            rw [e5] at h; simp only at h
            cases e6 : numP l5 with
            | none => rw [e6] at h; cases h
            | some r6 =>
              obtain ⟨en, l6⟩ := r6
              rw [e6] at h; simp only at h
              injection h with h
              injection h with h1 h2
              subst h1
              subst h2
              obtain ⟨a1, b1⟩ := (text_iff _ _ _).1 e1
              obtain ⟨_, a2, b2⟩ := (listR_iff text_iff textL_ge _ _ _).1 e2
              obtain ⟨_, a3, b3⟩ := (listR_iff seg_iff segL_ge _ _ _).1 e3
              obtain ⟨_, a4, b4⟩ := (listR_iff sym_iff symL_ge _ _ _).1 e4
              obtain ⟨_, a5, b5⟩ := (listR_iff rel_iff relL_ge _ _ _).1 e5
              obtain ⟨a6, b6⟩ := (num_iff _ _ _).1 e6
              refine ⟨⟨a1, a2, a3, a4, a5, a6⟩, ?_⟩
              rw [bytesL_eq, b1, b2, b3, b4, b5, b6]
theorem small_i64 {n k : Nat} (h : n ≤ k) (hk : k ≤ 16) : M.I64 (n : Int) := by unfold M.I64; omega
theorem imgR_of {i : M.Im} (hl : Lim i) (hf : FitsI i) (l' : List UInt8) : imgR (bytesL i ++ l') = some (i, l') := by
  rw [bytesL_eq]
  exact imgR_eq ((text_iff _ _ _).2 ⟨hf.name, rfl⟩) ((listR_iff text_iff textL_ge _ _ _).2 ⟨small_i64 hl.needs (by omega), hf.needs, rfl⟩) ((listR_iff seg_iff segL_ge _ _ _).2 ⟨small_i64 hl.segs (by omega), hf.segs, rfl⟩) ((listR_iff sym_iff symL_ge _ _ _).2 ⟨small_i64 hl.syms (by omega), hf.syms, rfl⟩) ((listR_iff rel_iff relL_ge _ _ _).2 ⟨small_i64 hl.rels (by omega), hf.rels, rfl⟩) ((num_iff _ _ _).2 ⟨hf.entry, rfl⟩)
/-- the image that the reference reads -/
def readR (l : List UInt8) : Option M.Im := match imgR l with
  | none => none
  | some (i, l') => if l' = [] ∧ M.chkN i = 0 then some i else none
theorem readR_eq {l l' : List UInt8} {i : M.Im} (e : imgR l = some (i, l')) : readR l = if l' = [] ∧ M.chkN i = 0 then some i else none := by
  unfold readR
  simp only [e]
theorem readR_none {l : List UInt8} (e : imgR l = none) : readR l = none := by
  unfold readR
  simp only [e]
theorem readR_iff (l : List UInt8) (i : M.Im) : readR l = some i ↔ M.chkN i = 0 ∧ FitsI i ∧ l = bytesL i := by
  constructor
  · intro h
    cases e : imgR l with
    | none => rw [readR_none e] at h; cases h
    | some r =>
      obtain ⟨j, l'⟩ := r
      rw [readR_eq e] at h
      by_cases c : l' = [] ∧ M.chkN j = 0
      · rw [if_pos c] at h
        injection h with h
        subst h
        obtain ⟨h2, h3⟩ := imgR_some e
        rw [c.1, List.append_nil] at h3
        exact ⟨c.2, h2, h3⟩
      · rw [if_neg c] at h; cases h
  · rintro ⟨h1, h2, h3⟩
    subst h3
    have e := imgR_of (chk_lim h1) h2 []
    rw [List.append_nil] at e
    rw [readR_eq e]
    exact if_pos ⟨rfl, h1⟩
/-- the reference and the program read the same -/
theorem read_same (l : List UInt8) : readP l = readR l := by
  cases h : readP l with
  | some i => exact ((readR_iff l i).2 ((read_iff l i).1 h)).symm
  | none =>
    cases g : readR l with
    | none => rfl
    | some i =>
      rw [(read_iff l i).2 ((readR_iff l i).1 g)] at h
      cases h
end Go.Proofs.Ytafdgjpmhofinaa.W
