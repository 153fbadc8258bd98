/- Reading and writing are each other's way back. -/
import Derived.Test.YtafdgjpmhofinaaS6
namespace Go.Proofs.Ytafdgjpmhofinaa.W
open Go.RowKit
set_option linter.unusedVariables false

theorem num_back (n : Int) (h : M.I64 n) : wrap64 ((Lib.leNat (num8 n) : Nat) : Int) = n := Z.back_num n h.1 h.2
theorem num_of (t : List UInt8) (h : t.length = 8) : num8 (wrap64 ((Lib.leNat t : Nat) : Int)) = t := by
  unfold num8
  rw [Z.low_wrap _ (Z.leNat_lt8 t (by omega))]
  have := Z.leBytes_leNat t
  rw [h] at this
  exact this
theorem num_iff (l l' : List UInt8) (n : Int) : numP l = some (n, l') ↔ M.I64 n ∧ l = num8 n ++ l' := by
  constructor
  · intro h
    obtain ⟨_, h2, h3, h4⟩ := numP_some h
    refine ⟨(numP_fit h).1, ?_⟩
    rw [h3, h4, num_of (l.take 8) (by simp; omega), List.take_append_drop]
  · rintro ⟨h1, h2⟩
    subst h2
    unfold numP
    rw [if_pos (by rw [List.length_append, num8_length]; omega), List.take_left' (num8_length n), List.drop_left' (num8_length n), num_back n h1]
theorem seg_eq {l l1 l2 l3 l4 l5 : List UInt8} {sp sn : Int} {sd : ByteArray} {sx sy : Bool} (e1 : numP l = some (sp, l1)) (e2 : numP l1 = some (sn, l2)) (e3 : textP l2 = some (sd, l3)) (e4 : flagP l3 = some (sx, l4)) (e5 : flagP l4 = some (sy, l5)) : segP l = some (⟨sp, sn, sd, sx, sy⟩, l5) := by
  unfold segP
  simp only [e1, e2, e3, e4, e5]
theorem sym_eq {l l1 l2 : List UInt8} {x : ByteArray} {xp : Int} (e1 : textP l = some (x, l1)) (e2 : numP l1 = some (xp, l2)) : symP l = some (⟨x, xp⟩, l2) := by
  unfold symP
  simp only [e1, e2]
theorem rel_eq {l l1 l2 l3 : List UInt8} {xp xa : Int} {x : ByteArray} (e1 : numP l = some (xp, l1)) (e2 : textP l1 = some (x, l2)) (e3 : numP l2 = some (xa, l3)) : relP l = some (⟨xp, x, xa⟩, l3) := by
  unfold relP
  simp only [e1, e2, e3]
theorem text_eq {l l1 : List UInt8} {n : Int} (e1 : numP l = some (n, l1)) : textP l = takeP n l1 := by
  unfold textP
  simp only [e1]
theorem flag_eq {l l1 : List UInt8} {n : Int} (e1 : numP l = some (n, l1)) : flagP l = if n = 0 ∨ n = 1 then some (n == 1, l1) else none := by
  unfold flagP
  simp only [e1]
theorem many_eq {α : Type} {one : List UInt8 → Option (α × List UInt8)} {n : Nat} {l l1 l2 : List UInt8} {x : α} {xs : List α} (e1 : one l = some (x, l1)) (e2 : manyP one n l1 = some (xs, l2)) : manyP one (n + 1) l = some (x :: xs, l2) := by
  simp only [manyP, e1, e2]
theorem list_eq {α : Type} {one : List UInt8 → Option (α × List UInt8)} {most : Nat} {n : Int} {l l1 : List UInt8} (e1 : numP l = some (n, l1)) (h : 0 ≤ n ∧ n ≤ (most : Int)) : listP one most l = manyP one n.toNat l1 := by
  unfold listP
  simp only [e1, if_pos h]
theorem text_iff (l l' : List UInt8) (x : ByteArray) : textP l = some (x, l') ↔ M.I64 (x.size : Int) ∧ l = textL x ++ l' := by
  constructor
  · intro h
    unfold textP at h
    cases e : numP l with
    | none => rw [e] at h; cases h
    | some r =>
      obtain ⟨n, l1⟩ := r
      rw [e] at h
      simp only at h
      obtain ⟨e1, e2⟩ := (num_iff _ _ _).1 e
      unfold takeP at h
      by_cases c : 0 ≤ n ∧ n ≤ (l1.length : Int)
      · rw [if_pos c] at h
        injection h with h
        injection h with h1 h2
        have hsz : ((⟨(l1.take n.toNat).toArray⟩ : ByteArray).size : Int) = n := by
          rw [Lib.size_eq]
          simp
          omega
        subst h1
        subst h2
        refine ⟨by rw [hsz]; exact e1, ?_⟩
        unfold textL
        rw [hsz, e2, List.append_assoc]
        simp
      · rw [if_neg c] at h; cases h
  · rintro ⟨h1, h2⟩
    subst h2
    have e : textL x ++ l' = num8 (x.size : Int) ++ (x.data.toList ++ l') := by unfold textL; rw [List.append_assoc]
    rw [e, text_eq ((num_iff (num8 (x.size : Int) ++ (x.data.toList ++ l')) _ _).2 ⟨h1, rfl⟩)]
    unfold takeP
    have hl : x.data.toList.length = x.size := (Lib.size_eq x).symm
    rw [if_pos ⟨by omega, by rw [List.length_append, hl]; omega⟩, Int.toNat_natCast, List.take_left' hl, List.drop_left' hl]
theorem flag_iff (l l' : List UInt8) (b : Bool) : flagP l = some (b, l') ↔ l = num8 (flagN b) ++ l' := by
  have hI : M.I64 (flagN b) := by unfold flagN M.I64; cases b <;> simp
  constructor
  · intro h
    unfold flagP at h
    cases e : numP l with
    | none => rw [e] at h; cases h
    | some r =>
      obtain ⟨n, l1⟩ := r
      rw [e] at h
      simp only at h
      obtain ⟨e1, e2⟩ := (num_iff _ _ _).1 e
      split at h
      · rename_i c
        injection h with h
        injection h with h1 h2
        subst h2
        rw [e2]
        rcases c with c | c
        · subst c; subst h1; rfl
        · subst c; subst h1; rfl
      · cases h
  · intro h
    subst h
    rw [flag_eq ((num_iff (num8 (flagN b) ++ l') _ _).2 ⟨hI, rfl⟩)]
    cases b
    · exact if_pos (.inl rfl)
    · exact if_pos (.inr rfl)
def FitsG (g : M.Sg) : Prop := M.I64 g.page ∧ M.I64 g.pages ∧ M.I64 (g.data.size : Int)
def FitsY (y : M.Sy) : Prop := M.I64 (y.name.size : Int) ∧ M.I64 y.pos
def FitsR (r : M.Rl) : Prop := M.I64 r.pos ∧ M.I64 (r.name.size : Int) ∧ M.I64 r.add
theorem seg_iff (l l' : List UInt8) (g : M.Sg) : segP l = some (g, l') ↔ FitsG g ∧ l = segL g ++ l' := by
  constructor
  · intro h
    unfold segP at h
    cases e1 : numP l with
    | none => rw [e1] at h; cases h
    | some r1 =>
      obtain ⟨sp, l1⟩ := r1
      rw [e1] at h; simp only at h
      cases e2 : numP l1 with
      | none => rw [e2] at h; cases h
      | some r2 =>
        obtain ⟨sn, l2⟩ := r2
        rw [e2] at h; simp only at h
        cases e3 : textP l2 with
        | none => rw [e3] at h; cases h
        | some r3 =>
          obtain ⟨sd, l3⟩ := r3
          rw [e3] at h; simp only at h
          cases e4 : flagP l3 with
          | none => rw [e4] at h; cases h
          | some r4 =>
            obtain ⟨sx, l4⟩ := r4
            rw [e4] at h; simp only at h
            cases e5 : flagP l4 with
            | none => rw [e5] at h; cases h
            | some r5 =>
              obtain ⟨sy, l5⟩ := r5
              rw [e5] at h; simp only at h
              injection h with h
              injection h with h1 h2
              subst h1
              subst h2
              obtain ⟨a1, b1⟩ := (num_iff _ _ _).1 e1
              obtain ⟨a2, b2⟩ := (num_iff _ _ _).1 e2
              obtain ⟨a3, b3⟩ := (text_iff _ _ _).1 e3
              have b4 := (flag_iff _ _ _).1 e4
              have b5 := (flag_iff _ _ _).1 e5
              refine ⟨⟨a1, a2, a3⟩, ?_⟩
              unfold segL
              rw [b1, b2, b3, b4, b5]
              simp only [List.append_assoc]
  · rintro ⟨⟨a1, a2, a3⟩, h⟩
    subst h
    have e : segL g ++ l' = num8 g.page ++ (num8 g.pages ++ (textL g.data ++ (num8 (flagN g.wr) ++ (num8 (flagN g.ex) ++ l')))) := by unfold segL; simp only [List.append_assoc]
    rw [e]
    exact seg_eq ((num_iff _ _ _).2 ⟨a1, rfl⟩) ((num_iff _ _ _).2 ⟨a2, rfl⟩) ((text_iff _ _ _).2 ⟨a3, rfl⟩) ((flag_iff _ _ _).2 rfl) ((flag_iff _ _ _).2 rfl)
theorem sym_iff (l l' : List UInt8) (g : M.Sy) : symP l = some (g, l') ↔ FitsY g ∧ l = symL g ++ l' := by
  constructor
  · intro h
    unfold symP at h
    cases e1 : textP l with
    | none => rw [e1] at h; cases h
    | some r1 =>
      obtain ⟨x, l1⟩ := r1
      rw [e1] at h; simp only at h
      cases e2 : numP l1 with
      | none => rw [e2] at h; cases h
      | some r2 =>
        obtain ⟨xp, l2⟩ := r2
        rw [e2] at h; simp only at h
        injection h with h
        injection h with h1 h2
        subst h1
        subst h2
        obtain ⟨a1, b1⟩ := (text_iff _ _ _).1 e1
        obtain ⟨a2, b2⟩ := (num_iff _ _ _).1 e2
        refine ⟨⟨a1, a2⟩, ?_⟩
        unfold symL
        rw [b1, b2]
        simp only [List.append_assoc]
  · rintro ⟨⟨a1, a2⟩, h⟩
    subst h
    have e : symL g ++ l' = textL g.name ++ (num8 g.pos ++ l') := by unfold symL; simp only [List.append_assoc]
    rw [e]
    exact sym_eq ((text_iff _ _ _).2 ⟨a1, rfl⟩) ((num_iff _ _ _).2 ⟨a2, rfl⟩)
theorem rel_iff (l l' : List UInt8) (g : M.Rl) : relP l = some (g, l') ↔ FitsR g ∧ l = relL g ++ l' := by
  constructor
  · intro h
    unfold relP at h
    cases e1 : numP l with
    | none => rw [e1] at h; cases h
    | some r1 =>
      obtain ⟨xp, l1⟩ := r1
      rw [e1] at h; simp only at h
      cases e2 : textP l1 with
      | none => rw [e2] at h; cases h
      | some r2 =>
        obtain ⟨x, l2⟩ := r2
        rw [e2] at h; simp only at h
        cases e3 : numP l2 with
        | none => rw [e3] at h; cases h
        | some r3 =>
          obtain ⟨xa, l3⟩ := r3
          rw [e3] at h; simp only at h
          injection h with h
          injection h with h1 h2
          subst h1
          subst h2
          obtain ⟨a1, b1⟩ := (num_iff _ _ _).1 e1
          obtain ⟨a2, b2⟩ := (text_iff _ _ _).1 e2
          obtain ⟨a3, b3⟩ := (num_iff _ _ _).1 e3
          refine ⟨⟨a1, a2, a3⟩, ?_⟩
          unfold relL
          rw [b1, b2, b3]
          simp only [List.append_assoc]
  · rintro ⟨⟨a1, a2, a3⟩, h⟩
    subst h
    have e : relL g ++ l' = num8 g.pos ++ (textL g.name ++ (num8 g.add ++ l')) := by unfold relL; simp only [List.append_assoc]
    rw [e]
    exact rel_eq ((num_iff _ _ _).2 ⟨a1, rfl⟩) ((text_iff _ _ _).2 ⟨a2, rfl⟩) ((num_iff _ _ _).2 ⟨a3, rfl⟩)
theorem many_iff {α : Type} {one : List UInt8 → Option (α × List UInt8)} {F : α → Prop} {enc : α → List UInt8} (h1 : ∀ l l' x, one l = some (x, l') ↔ F x ∧ l = enc x ++ l') : ∀ (n : Nat) (l l' : List UInt8) (xs : List α), manyP one n l = some (xs, l') ↔ xs.length = n ∧ (∀ x ∈ xs, F x) ∧ l = xs.flatMap enc ++ l'
  | 0, l, l', xs => by
    constructor
    · intro h
      simp only [manyP] at h
      injection h with h
      injection h with a b
      subst a
      subst b
      exact ⟨rfl, fun x hx => (by cases hx), rfl⟩
    · rintro ⟨a, _, b⟩
      have : xs = [] := List.eq_nil_of_length_eq_zero a
      subst this
      subst b
      rfl
  | n + 1, l, l', xs => by
    constructor
    · intro h
      simp only [manyP] at h
      cases e : one l with
      | none => rw [e] at h; cases h
      | some r =>
        obtain ⟨x, l1⟩ := r
        rw [e] at h; simp only at h
        cases e2 : manyP one n l1 with
        | none => rw [e2] at h; cases h
        | some r2 =>
          obtain ⟨ys, l2⟩ := r2
          rw [e2] at h; simp only at h
          injection h with h
          injection h with a b
          subst a
          subst b
          obtain ⟨f, g⟩ := (h1 _ _ _).1 e
          obtain ⟨p, q, r⟩ := (many_iff h1 n l1 l2 ys).1 e2
          refine ⟨by simp [p], fun z hz => ?_, ?_⟩
          · rcases List.mem_cons.1 hz with hz | hz
            · rw [hz]; exact f
            · exact q z hz
          · rw [g, r, List.flatMap_cons, List.append_assoc]
    · rintro ⟨a, b, c⟩
      cases xs with
      | nil => simp at a
      | cons x ys =>
        subst c
        rw [List.flatMap_cons, List.append_assoc]
        exact many_eq ((h1 _ _ _).2 ⟨b x (by simp), rfl⟩) ((many_iff h1 n _ l' ys).2 ⟨by simpa using a, fun z hz => b z (by simp [hz]), rfl⟩)
theorem list_iff {α : Type} {one : List UInt8 → Option (α × List UInt8)} {F : α → Prop} {enc : α → List UInt8} (h1 : ∀ l l' x, one l = some (x, l') ↔ F x ∧ l = enc x ++ l') (most : Nat) (hm : most ≤ 16) (l l' : List UInt8) (xs : List α) :
    listP one most l = some (xs, l') ↔ xs.length ≤ most ∧ (∀ x ∈ xs, F x) ∧ l = num8 xs.length ++ (xs.flatMap enc ++ l') := by
  constructor
  · intro h
    unfold listP at h
    cases e : numP l with
    | none => rw [e] at h; cases h
    | some r =>
      obtain ⟨n, l1⟩ := r
      rw [e] at h; simp only at h
      obtain ⟨a, b⟩ := (num_iff _ _ _).1 e
      split at h
      · rename_i c
        obtain ⟨p, q, r⟩ := (many_iff h1 _ _ _ _).1 h
        refine ⟨by omega, q, ?_⟩
        rw [b, r, p, Int.toNat_of_nonneg c.1]
      · cases h
  · rintro ⟨a, b, c⟩
    subst c
    rw [list_eq ((num_iff (num8 (xs.length : Int) ++ (xs.flatMap enc ++ l')) _ _).2 ⟨by unfold M.I64; omega, rfl⟩) ⟨by omega, by omega⟩, Int.toNat_natCast]
    exact (many_iff h1 _ _ _ _).2 ⟨rfl, b, rfl⟩
end Go.Proofs.Ytafdgjpmhofinaa.W
