import Derived.Test.YtbgnagognnklbaaG23
/- Symbols, and what relocations come to; plain Lean. -/
namespace Go.Proofs.Ytbgnagognnklbaa.LM
open Go.RowKit
set_option linter.unusedVariables false
set_option maxRecDepth 100000

def symIx (l : List M.Sy) (s : ByteArray) : Option Nat := l.findIdx? (fun y => decide (y.name = s))
theorem syAt_get (l : List M.Sy) (j : Nat) (h : j < l.length) : M.syAt l j = l[j] := by
  unfold M.syAt
  rw [List.getD_eq_getElem?_getD, List.getElem?_eq_getElem h]
  rfl
theorem symIx_at {l : List M.Sy} {s : ByteArray} {k : Nat} (hk : k < l.length) (h : (M.syAt l k).name = s) (hno : ∀ j, j < k → (M.syAt l j).name ≠ s) : symIx l s = some k := by
  unfold symIx
  refine List.findIdx?_eq_some_iff_getElem.2 ⟨hk, ?_, fun j hj => ?_⟩
  · rw [syAt_get l k hk] at h
    exact decide_eq_true h
  · have := hno j hj
    rw [syAt_get l j (by omega)] at this
    simpa using this
theorem symIx_none {l : List M.Sy} {s : ByteArray} (h : ∀ j, j < l.length → (M.syAt l j).name ≠ s) : symIx l s = none := by
  unfold symIx
  refine List.findIdx?_eq_none_iff.2 (fun y hy => ?_)
  obtain ⟨j, hj, e⟩ := List.getElem_of_mem hy
  have := h j hj
  rw [syAt_get l j hj, e] at this
  simpa using this
theorem symIx_lt {l : List M.Sy} {s : ByteArray} {k : Nat} (h : symIx l s = some k) : k < l.length := by
  unfold symIx at h
  obtain ⟨hj, _⟩ := List.findIdx?_eq_some_iff_getElem.1 h
  exact hj
/-- the address of that name in an object -/
def symN (o : Ob) (s : ByteArray) : Option Int := match symIx o.i.syms s with
  | none => none
  | some k => some (addrO o (M.syAt o.i.syms k).pos)
/-- .. in the first k objects -/
def tgtTo (l : List Ob) (s : ByteArray) : Nat → Option Int
  | 0 => none
  | k + 1 => match tgtTo l s k with
    | some t => some t
    | none => symN (obAt l k) s
def tgtN (l : List Ob) (o : Ob) (s : ByteArray) : Option Int := if s = ⟨#[]⟩ then some (addrO o 0) else tgtTo l s l.length
theorem tgtTo_some {l : List Ob} {s : ByteArray} {k : Nat} {t : Int} (h : tgtTo l s k = some t) : ∀ n, k ≤ n → tgtTo l s n = some t
  | 0, hn => by obtain rfl : k = 0 := by omega
                exact h
  | n + 1, hn => by
    by_cases e : k = n + 1
    · subst e; exact h
    · simp only [tgtTo]
      rw [tgtTo_some h n (by omega)]
/-- places of symbols and relocations are small -/
theorem places_of {i : M.Im} (hc : M.chkN i = 0) : M.placesB i = true := by
  unfold M.chkN at hc
  split at hc
  · simp at hc
  · split at hc
    · simp at hc
    · split at hc
      · simp at hc
      · split at hc
        · simp at hc
        · split at hc
          · simp at hc
          · rename_i h
            simpa using h
theorem segIn_mem : ∀ {l : List M.Sg} {a : Int} {s : M.Sg}, M.segIn l a = some s → (∃ k, k < l.length ∧ M.sgAt l k = s) ∧ M.inSeg s a = true
  | [], a, s, h => by cases h
  | x :: r, a, s, h => by
    simp only [M.segIn] at h
    split at h
    · rename_i hi
      injection h with h
      subst h
      exact ⟨⟨0, by simp, rfl⟩, hi⟩
    · obtain ⟨⟨k, hk, e⟩, hi⟩ := segIn_mem h
      exact ⟨⟨k + 1, by simpa using hk, by simpa [M.sgAt] using e⟩, hi⟩
theorem placed_bounds {i : M.Im} (hc : M.chkN i = 0) {a : Int} (h : M.placedB i.segs a = true) : 0 ≤ a ∧ a < 4080 := by
  unfold M.placedB at h
  obtain ⟨s, hs⟩ := Option.isSome_iff_exists.1 h
  obtain ⟨⟨k, hk, e⟩, hi⟩ := segIn_mem hs
  have hb := seg_bounds hc k hk
  rw [e] at hb
  unfold M.inSeg at hi
  have := of_decide_eq_true hi
  omega
theorem sym_bounds {i : M.Im} (hc : M.chkN i = 0) (k : Nat) (hk : k < i.syms.length) : 0 ≤ (M.syAt i.syms k).pos ∧ (M.syAt i.syms k).pos < 4080 := by
  have h := places_of hc
  unfold M.placesB at h
  simp only [Bool.and_eq_true] at h
  exact placed_bounds hc (M.all_at (fun y => M.placedB i.segs y.pos) M.sy0 i.syms k hk h.1)
theorem relsTo_at (i : M.Im) : ∀ n, M.relsTo i n = true → ∀ k, k < n → M.relAt i k = true
  | 0, _, k, hk => by omega
  | n + 1, h, k, hk => by
    simp only [M.relsTo, Bool.and_eq_true] at h
    by_cases e : k = n
    · subst e; exact h.2
    · exact relsTo_at i n h.1 k (by omega)
theorem rel_at {i : M.Im} (hc : M.chkN i = 0) (k : Nat) (hk : k < i.rels.length) : M.relAt i k = true := by
  have h := places_of hc
  unfold M.placesB at h
  simp only [Bool.and_eq_true] at h
  exact relsTo_at i i.rels.length h.2.1 k hk
theorem rel_bounds {i : M.Im} (hc : M.chkN i = 0) (k : Nat) (hk : k < i.rels.length) : 0 ≤ (M.rlAt i.rels k).pos ∧ (M.rlAt i.rels k).pos + 7 < 4080 := by
  have h := rel_at hc k hk
  unfold M.relAt M.wholeB at h
  simp only [Bool.and_eq_true] at h
  have h0 := placed_bounds hc h.2.1
  have h7 := placed_bounds hc h.2.2.2.2.2.2.2.2
  omega
theorem entry_bounds {i : M.Im} (hc : M.chkN i = 0) : 0 ≤ i.entry ∧ i.entry < 4080 := by
  have h := places_of hc
  unfold M.placesB at h
  simp only [Bool.and_eq_true] at h
  have he := h.2.2
  unfold M.entryB at he
  refine placed_bounds hc ?_
  unfold M.placedB
  cases e : M.segIn i.segs i.entry with
  | none => rw [e] at he; cases he
  | some s => rfl

/-- the patch of a relocation that comes to t -/
def ptOf (o : Ob) (r : M.Rl) (t : Int) : Pt := ⟨addrO o r.pos, ⟨(Lib.leBytes 8 (CM.low (t + r.add))).toArray⟩⟩
def patTo (l : List Ob) (o : Ob) : Nat → Option (List Pt)
  | 0 => some []
  | k + 1 => match patTo l o k with
    | none => none
    | some ps => match tgtN l o (M.rlAt o.i.rels k).name with
      | none => none
      | some t => some (ps ++ [ptOf o (M.rlAt o.i.rels k) t])
def patN (l : List Ob) (o : Ob) : Option (List Pt) := patTo l o o.i.rels.length
theorem patTo_none {l : List Ob} {o : Ob} {k : Nat} (h : patTo l o k = none) : ∀ n, k ≤ n → patTo l o n = none
  | 0, hn => by obtain rfl : k = 0 := by omega
                exact h
  | n + 1, hn => by
    by_cases e : k = n + 1
    · subst e; exact h
    · simp only [patTo]
      rw [patTo_none h n (by omega)]
theorem patTo_len {l : List Ob} {o : Ob} : ∀ {k : Nat} {ps : List Pt}, patTo l o k = some ps → ps.length = k
  | 0, ps, h => by simp only [patTo] at h; injection h with h; subst h; rfl
  | k + 1, ps, h => by
    simp only [patTo] at h
    cases e : patTo l o k with
    | none => rw [e] at h; cases h
    | some qs =>
      rw [e] at h
      simp only at h
      cases g : tgtN l o (M.rlAt o.i.rels k).name with
      | none => rw [g] at h; cases h
      | some t =>
        rw [g] at h
        simp only at h
        injection h with h
        subst h
        rw [List.length_append, patTo_len e]
        rfl
theorem low_wrap (n : Int) : CM.low (wrap64 n) = CM.low n := by
  unfold CM.low wrap64
  omega
end Go.Proofs.Ytbgnagognnklbaa.LM
