/- The reference's reader with its flag, and the plain parser. -/
import Derived.Test.YtafdgjpmhofinaaU2
namespace Go.Proofs.Ytafdgjpmhofinaa.W
open Go.RowKit
set_option linter.unusedVariables false

/-- E reads as the parser P does, and is bad where P finds nothing -/
structure Reads {α : Type} (E : Option (List UInt8) → α × Option (List UInt8)) (P : List UInt8 → Option (α × List UInt8)) : Prop where
  some_ : ∀ l x l', P l = some (x, l') → E (some l) = (x, some l')
  none_ : ∀ l, P l = none → (E (some l)).2 = none
  bad : (E none).2 = none
theorem reads_num : Reads numE numP := ⟨fun l x l' h => numE_some h, fun l h => by rw [numE_none h], rfl⟩
theorem countE_of {l l1 : List UInt8} {n : Int} (h : numP l = some (n, l1)) : countE (some l) = if 0 ≤ n ∧ n ≤ (l1.length : Int) then (n, some l1) else (0, none) := countE_some (numE_some h)
theorem reads_text : Reads textE textP := by
  refine ⟨fun l x l' h => ?_, fun l h => ?_, by rw [textE_none (countE_none (o := none) rfl)]⟩
  · cases e : numP l with
    | none => unfold textP at h; rw [e] at h; cases h
    | some r =>
      obtain ⟨n, l1⟩ := r
      rw [text_eq e] at h
      unfold takeP at h
      by_cases c : 0 ≤ n ∧ n ≤ (l1.length : Int)
      · rw [if_pos c] at h
        injection h with h
        injection h with h1 h2
        have hc := countE_of e
        rw [if_pos c, ← Int.toNat_of_nonneg c.1] at hc
        rw [textE_some hc, ← h1, ← h2]
      · rw [if_neg c] at h; cases h
  · cases e : numP l with
    | none => rw [textE_none (countE_none (by rw [numE_none e]))]
    | some r =>
      obtain ⟨n, l1⟩ := r
      rw [text_eq e] at h
      unfold takeP at h
      by_cases c : 0 ≤ n ∧ n ≤ (l1.length : Int)
      · rw [if_pos c] at h; cases h
      · have hc := countE_of e
        rw [if_neg c] at hc
        rw [textE_none hc]
theorem reads_truth : Reads truthE flagP := by
  refine ⟨fun l x l' h => ?_, fun l h => ?_, by rw [truthE_none (n := 0) rfl]⟩
  · cases e : numP l with
    | none => unfold flagP at h; rw [e] at h; cases h
    | some r =>
      obtain ⟨n, l1⟩ := r
      rw [flag_eq e] at h
      rw [truthE_some (numE_some e)]
      by_cases c : n = 0 ∨ n = 1
      · rw [if_pos c] at h
        injection h with h
        injection h with h1 h2
        rw [if_pos c, h1, h2]
      · rw [if_neg c] at h; cases h
  · cases e : numP l with
    | none => rw [truthE_none (numE_none e)]
    | some r =>
      obtain ⟨n, l1⟩ := r
      rw [flag_eq e] at h
      rw [truthE_some (numE_some e)]
      by_cases c : n = 0 ∨ n = 1
      · rw [if_pos c] at h; cases h
      · rw [if_neg c]
def segE (o : Option (List UInt8)) : M.Sg × Option (List UInt8) :=
  (⟨(numE o).1, (numE (numE o).2).1, (textE (numE (numE o).2).2).1, (truthE (textE (numE (numE o).2).2).2).1, (truthE (truthE (textE (numE (numE o).2).2).2).2).1⟩, (truthE (truthE (textE (numE (numE o).2).2).2).2).2)
def symE (o : Option (List UInt8)) : M.Sy × Option (List UInt8) := (⟨(textE o).1, (numE (textE o).2).1⟩, (numE (textE o).2).2)
def relE (o : Option (List UInt8)) : M.Rl × Option (List UInt8) := (⟨(numE o).1, (textE (numE o).2).1, (numE (textE (numE o).2).2).1⟩, (numE (textE (numE o).2).2).2)
/-- a reading that may go on from a bad state -/
theorem Reads.two {α : Type} {E : Option (List UInt8) → α × Option (List UInt8)} {P : List UInt8 → Option (α × List UInt8)} (h : Reads E P) {o : Option (List UInt8)} (ho : o = none) : (E o).2 = none := by rw [ho]; exact h.bad
theorem reads_sym : Reads symE symP := by
  refine ⟨fun l x l' h => ?_, fun l h => ?_, reads_num.two (reads_text.two rfl)⟩
  · cases e1 : textP l with
    | none => unfold symP at h; rw [e1] at h; cases h
    | some r1 =>
      obtain ⟨a, l1⟩ := r1
      cases e2 : numP l1 with
      | none => unfold symP at h; rw [e1] at h; simp only at h; rw [e2] at h; cases h
      | some r2 =>
        obtain ⟨b, l2⟩ := r2
        rw [sym_eq e1 e2] at h
        injection h with h
        injection h with h1 h2
        unfold symE
        rw [reads_text.some_ _ _ _ e1]
        simp only
        rw [reads_num.some_ _ _ _ e2, h1, h2]
  · unfold symE
    simp only
    cases e1 : textP l with
    | none => exact reads_num.two (reads_text.none_ l e1)
    | some r1 =>
      obtain ⟨a, l1⟩ := r1
      rw [reads_text.some_ _ _ _ e1]
      simp only
      cases e2 : numP l1 with
      | none => exact reads_num.none_ l1 e2
      | some r2 =>
        obtain ⟨b, l2⟩ := r2
        rw [sym_eq e1 e2] at h
        cases h
theorem reads_rel : Reads relE relP := by
  refine ⟨fun l x l' h => ?_, fun l h => ?_, reads_num.two (reads_text.two (reads_num.two rfl))⟩
  · cases e1 : numP l with
    | none => unfold relP at h; rw [e1] at h; cases h
    | some r1 =>
      obtain ⟨a, l1⟩ := r1
      cases e2 : textP l1 with
      | none => unfold relP at h; rw [e1] at h; simp only at h; rw [e2] at h; cases h
      | some r2 =>
        obtain ⟨b, l2⟩ := r2
        cases e3 : numP l2 with
        | none => unfold relP at h; rw [e1] at h; simp only at h; rw [e2] at h; simp only at h; rw [e3] at h; cases h
        | some r3 =>
          obtain ⟨c, l3⟩ := r3
          rw [rel_eq e1 e2 e3] at h
          injection h with h
          injection h with h1 h2
          unfold relE
          rw [reads_num.some_ _ _ _ e1]
          simp only
          rw [reads_text.some_ _ _ _ e2]
          simp only
          rw [reads_num.some_ _ _ _ e3, h1, h2]
  · unfold relE
    simp only
    cases e1 : numP l with
    | none => exact reads_num.two (reads_text.two (reads_num.none_ l e1))
    | some r1 =>
      obtain ⟨a, l1⟩ := r1
      rw [reads_num.some_ _ _ _ e1]
      simp only
      cases e2 : textP l1 with
      | none => exact reads_num.two (reads_text.none_ l1 e2)
      | some r2 =>
        obtain ⟨b, l2⟩ := r2
        rw [reads_text.some_ _ _ _ e2]
        simp only
        cases e3 : numP l2 with
        | none => exact reads_num.none_ l2 e3
        | some r3 =>
          obtain ⟨c, l3⟩ := r3
          rw [rel_eq e1 e2 e3] at h
          cases h
theorem reads_seg : Reads segE segP := by
  refine ⟨fun l x l' h => ?_, fun l h => ?_, reads_truth.two (reads_truth.two (reads_text.two (reads_num.two (reads_num.two rfl))))⟩
  · cases e1 : numP l with
    | none => unfold segP at h; rw [e1] at h; cases h
    | some r1 =>
      obtain ⟨a, l1⟩ := r1
      cases e2 : numP l1 with
      | none => unfold segP at h; rw [e1] at h; simp only at h; rw [e2] at h; cases h
      | some r2 =>
        obtain ⟨b, l2⟩ := r2
        cases e3 : textP l2 with
        | none => unfold segP at h; rw [e1] at h; simp only at h; rw [e2] at h; simp only at h; rw [e3] at h; cases h
        | some r3 =>
          obtain ⟨c, l3⟩ := r3
          cases e4 : flagP l3 with
          | none => unfold segP at h; rw [e1] at h; simp only at h; rw [e2] at h; simp only at h; rw [e3] at h; simp only at h; rw [e4] at h; cases h
          | some r4 =>
            obtain ⟨d, l4⟩ := r4
            cases e5 : flagP l4 with
            | none => unfold segP at h; rw [e1] at h; simp only at h; rw [e2] at h; simp only at h; rw [e3] at h; simp only at h; rw [e4] at h; simp only at h; rw [e5] at h; cases h
            | some r5 =>
              obtain ⟨e, l5⟩ := r5
              rw [seg_eq e1 e2 e3 e4 e5] at h
              injection h with h
              injection h with h1 h2
              unfold segE
              rw [reads_num.some_ _ _ _ e1]
              simp only
              rw [reads_num.some_ _ _ _ e2]
              simp only
              rw [reads_text.some_ _ _ _ e3]
              simp only
              rw [reads_truth.some_ _ _ _ e4]
              simp only
              rw [reads_truth.some_ _ _ _ e5, h1, h2]
  · unfold segE
    simp only
    cases e1 : numP l with
    | none => exact reads_truth.two (reads_truth.two (reads_text.two (reads_num.two (reads_num.none_ l e1))))
    | some r1 =>
      obtain ⟨a, l1⟩ := r1
      rw [reads_num.some_ _ _ _ e1]
      simp only
      cases e2 : numP l1 with
      | none => exact reads_truth.two (reads_truth.two (reads_text.two (reads_num.none_ l1 e2)))
      | some r2 =>
        obtain ⟨b, l2⟩ := r2
        rw [reads_num.some_ _ _ _ e2]
        simp only
        cases e3 : textP l2 with
        | none => exact reads_truth.two (reads_truth.two (reads_text.none_ l2 e3))
        | some r3 =>
          obtain ⟨c, l3⟩ := r3
          rw [reads_text.some_ _ _ _ e3]
          simp only
          cases e4 : flagP l3 with
          | none => exact reads_truth.two (reads_truth.none_ l3 e4)
          | some r4 =>
            obtain ⟨d, l4⟩ := r4
            rw [reads_truth.some_ _ _ _ e4]
            simp only
            cases e5 : flagP l4 with
            | none => exact reads_truth.none_ l4 e5
            | some r5 =>
              obtain ⟨e, l5⟩ := r5
              rw [seg_eq e1 e2 e3 e4 e5] at h
              cases h
/-- the reference's loop over a list -/
def stepsE {α : Type} (E : Option (List UInt8) → α × Option (List UInt8)) : Nat → Option (List UInt8) → List α → List α × Option (List UInt8)
  | 0, o, xs => (xs, o)
  | n + 1, none, xs => (xs, none)
  | n + 1, some l, xs => stepsE E n (E (some l)).2 (xs ++ [(E (some l)).1])
theorem steps_bad {α : Type} (E : Option (List UInt8) → α × Option (List UInt8)) (n : Nat) (xs : List α) : stepsE E n none xs = (xs, none) := by cases n <;> rfl
theorem steps_many {α : Type} {E : Option (List UInt8) → α × Option (List UInt8)} {P : List UInt8 → Option (α × List UInt8)} (h : Reads E P) : ∀ (n : Nat) (l : List UInt8) (xs : List α),
    (∀ ys l', manyP P n l = some (ys, l') → stepsE E n (some l) xs = (xs ++ ys, some l')) ∧ (manyP P n l = none → (stepsE E n (some l) xs).2 = none)
  | 0, l, xs => by
    refine ⟨fun ys l' g => ?_, fun g => ?_⟩
    · simp only [manyP] at g
      injection g with g
      injection g with g1 g2
      subst g1
      subst g2
      simp [stepsE]
    · simp only [manyP] at g
      cases g
  | n + 1, l, xs => by
    cases e : P l with
    | none =>
      refine ⟨fun ys l' g => ?_, fun g => ?_⟩
      · rw [many_none e] at g; cases g
      · simp only [stepsE]
        rw [h.none_ l e, steps_bad]
    | some r =>
      obtain ⟨x, l1⟩ := r
      have ih := steps_many h n l1 (xs ++ [x])
      have hs : stepsE E (n + 1) (some l) xs = stepsE E n (some l1) (xs ++ [x]) := by
        simp only [stepsE]
        rw [h.some_ _ _ _ e]
      rw [hs]
      cases e2 : manyP P n l1 with
      | none =>
        refine ⟨fun ys l' g => ?_, fun g => ih.2 e2⟩
        simp only [manyP, e, e2] at g
        cases g
      | some r2 =>
        obtain ⟨ys, l2⟩ := r2
        refine ⟨fun zs l' g => ?_, fun g => ?_⟩
        · rw [many_eq e e2] at g
          injection g with g
          injection g with g1 g2
          subst g1
          subst g2
          rw [ih.1 ys l2 e2]
          simp
        · rw [many_eq e e2] at g
          cases g
def listE {α : Type} (E : Option (List UInt8) → α × Option (List UInt8)) (o : Option (List UInt8)) : List α × Option (List UInt8) := stepsE E (countE o).1.toNat (countE o).2 []
theorem reads_list {α : Type} {E : Option (List UInt8) → α × Option (List UInt8)} {P : List UInt8 → Option (α × List UInt8)} (h : Reads E P) : Reads (listE E) (listR P) := by
  refine ⟨fun l x l' g => ?_, fun l g => ?_, ?_⟩
  · cases e : numP l with
    | none => rw [listR_none e] at g; cases g
    | some r =>
      obtain ⟨n, l1⟩ := r
      rw [listR_eq e] at g
      by_cases c : 0 ≤ n ∧ n ≤ (l1.length : Int)
      · rw [if_pos c] at g
        unfold listE
        rw [countE_of e, if_pos c]
        simp only
        rw [(steps_many h n.toNat l1 []).1 x l' g]
        simp
      · rw [if_neg c] at g; cases g
  · cases e : numP l with
    | none =>
      unfold listE
      rw [countE_none (by rw [numE_none e])]
      exact congrArg Prod.snd (steps_bad E _ [])
    | some r =>
      obtain ⟨n, l1⟩ := r
      rw [listR_eq e] at g
      unfold listE
      rw [countE_of e]
      by_cases c : 0 ≤ n ∧ n ≤ (l1.length : Int)
      · rw [if_pos c] at g
        rw [if_pos c]
        exact (steps_many h n.toNat l1 []).2 g
      · rw [if_neg c]
        exact congrArg Prod.snd (steps_bad E _ [])
  · unfold listE
    rw [countE_none (o := none) rfl]
    exact congrArg Prod.snd (steps_bad E _ [])
end Go.Proofs.Ytafdgjpmhofinaa.W
