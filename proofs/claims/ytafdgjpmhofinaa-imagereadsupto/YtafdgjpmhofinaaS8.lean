/- What is read: just the images whose bytes these are. -/
import Derived.Test.YtafdgjpmhofinaaS7
namespace Go.Proofs.Ytafdgjpmhofinaa.W
open Go.RowKit
set_option linter.unusedVariables false

structure FitsI (i : M.Im) : Prop where
  name : M.I64 (i.name.size : Int)
  needs : ∀ x ∈ i.needs, M.I64 (x.size : Int)
  segs : ∀ x ∈ i.segs, FitsG x
  syms : ∀ x ∈ i.syms, FitsY x
  rels : ∀ x ∈ i.rels, FitsR x
  entry : M.I64 i.entry
structure Lim (i : M.Im) : Prop where
  needs : i.needs.length ≤ 4
  segs : i.segs.length ≤ 6
  syms : i.syms.length ≤ 12
  rels : i.rels.length ≤ 16
theorem img_eq {l l1 l2 l3 l4 l5 l6 : List UInt8} {nm : ByteArray} {ns : List ByteArray} {gs : List M.Sg} {ys : List M.Sy} {rs : List M.Rl} {en : Int} (e1 : textP l = some (nm, l1)) (e2 : listP textP 4 l1 = some (ns, l2)) (e3 : listP segP 6 l2 = some (gs, l3)) (e4 : listP symP 12 l3 = some (ys, l4)) (e5 : listP relP 16 l4 = some (rs, l5)) (e6 : numP l5 = some (en, l6)) : imgP l = some (⟨nm, ns, gs, ys, rs, en⟩, l6) := by
  unfold imgP
  simp only [e1, e2, e3, e4, e5, e6]
theorem bytesL_eq (i : M.Im) (l : List UInt8) : bytesL i ++ l = textL i.name ++ (num8 i.needs.length ++ (i.needs.flatMap textL ++ (num8 i.segs.length ++ (i.segs.flatMap segL ++ (num8 i.syms.length ++ (i.syms.flatMap symL ++ (num8 i.rels.length ++ (i.rels.flatMap relL ++ (num8 i.entry ++ l))))))))) := by
  unfold bytesL
  simp only [List.append_assoc]
theorem img_some {l l' : List UInt8} {i : M.Im} (h : imgP l = some (i, l')) : Lim i ∧ FitsI i ∧ l = bytesL i ++ l' := by
  unfold imgP at h
  cases e1 : textP l with
  | none => rw [e1] at h; cases h
  | some r1 =>
    obtain ⟨nm, l1⟩ := r1
    rw [e1] at h; simp only at h
    cases e2 : listP textP 4 l1 with
    | none => rw [e2] at h; cases h
    | some r2 =>
      obtain ⟨ns, l2⟩ := r2
      rw [e2] at h; simp only at h
      cases e3 : listP segP 6 l2 with
      | none => rw [e3] at h; cases h
      | some r3 =>
        obtain ⟨gs, l3⟩ := r3
        rw [e3] at h; simp only at h
        cases e4 : listP symP 12 l3 with
        | none => rw [e4] at h; cases h
        | some r4 =>
          obtain ⟨ys, l4⟩ := r4
          rw [e4] at h; simp only at h
          cases e5 : listP relP 16 l4 with
          | none => rw [e5] at h; cases h
          | some r5 =>
            obtain ⟨rs, l5⟩ := r5
            rw [e5] at h; simp only at h
            cases e6 : numP l5 with
            | none => rw [e6] at h; cases h
            | some r6 =>
              obtain ⟨en, l6⟩ := r6
              rw [e6] at h; simp only at h
              injection h with h
              injection h with h1 h2
              subst h1
              subst h2
              obtain ⟨a1, b1⟩ := (text_iff _ _ _).1 e1
              obtain ⟨c2, a2, b2⟩ := (list_iff text_iff 4 (by omega) _ _ _).1 e2
              obtain ⟨c3, a3, b3⟩ := (list_iff seg_iff 6 (by omega) _ _ _).1 e3
              obtain ⟨c4, a4, b4⟩ := (list_iff sym_iff 12 (by omega) _ _ _).1 e4
              obtain ⟨c5, a5, b5⟩ := (list_iff rel_iff 16 (by omega) _ _ _).1 e5
              obtain ⟨a6, b6⟩ := (num_iff _ _ _).1 e6
              refine ⟨⟨c2, c3, c4, c5⟩, ⟨a1, a2, a3, a4, a5, a6⟩, ?_⟩
              rw [bytesL_eq, b1, b2, b3, b4, b5, b6]
theorem img_of {i : M.Im} (hl : Lim i) (hf : FitsI i) (l' : List UInt8) : imgP (bytesL i ++ l') = some (i, l') := by
  rw [bytesL_eq]
  exact img_eq ((text_iff _ _ _).2 ⟨hf.name, rfl⟩) ((list_iff text_iff 4 (by omega) _ _ _).2 ⟨hl.needs, hf.needs, rfl⟩) ((list_iff seg_iff 6 (by omega) _ _ _).2 ⟨hl.segs, hf.segs, rfl⟩) ((list_iff sym_iff 12 (by omega) _ _ _).2 ⟨hl.syms, hf.syms, rfl⟩) ((list_iff rel_iff 16 (by omega) _ _ _).2 ⟨hl.rels, hf.rels, rfl⟩) ((num_iff _ _ _).2 ⟨hf.entry, rfl⟩)
/-- the image that Read answers -/
def readP (l : List UInt8) : Option M.Im := match imgP l with
  | none => none
  | some (i, l') => if l' = [] ∧ M.chkN i = 0 then some i else none
theorem read_eq {l l' : List UInt8} {i : M.Im} (e : imgP l = some (i, l')) : readP l = if l' = [] ∧ M.chkN i = 0 then some i else none := by
  unfold readP
  simp only [e]
theorem read_none {l : List UInt8} (e : imgP l = none) : readP l = none := by
  unfold readP
  simp only [e]
theorem chk_lim {i : M.Im} (h : M.chkN i = 0) : Lim i := let s := chk_small h; ⟨s.needs, s.segs, s.syms, s.rels⟩
theorem read_iff (l : List UInt8) (i : M.Im) : readP l = some i ↔ M.chkN i = 0 ∧ FitsI i ∧ l = bytesL i := by
  constructor
  · intro h
    cases e : imgP l with
    | none => rw [read_none e] at h; cases h
    | some r =>
      obtain ⟨j, l'⟩ := r
      rw [read_eq e] at h
      by_cases c : l' = [] ∧ M.chkN j = 0
      · rw [if_pos c] at h
        injection h with h
        subst h
        obtain ⟨_, h2, h3⟩ := img_some e
        rw [c.1, List.append_nil] at h3
        exact ⟨c.2, h2, h3⟩
      · rw [if_neg c] at h; cases h
  · rintro ⟨h1, h2, h3⟩
    subst h3
    have e := img_of (chk_lim h1) h2 []
    rw [List.append_nil] at e
    rw [read_eq e]
    exact if_pos ⟨rfl, h1⟩
theorem segL_length (g : M.Sg) : (segL g).length = 40 + g.data.size := by
  unfold segL
  simp only [List.length_append, num8_length, textL_length]
  omega
theorem symL_length (g : M.Sy) : (symL g).length = 16 + g.name.size := by
  unfold symL
  simp only [List.length_append, num8_length, textL_length]
  omega
theorem relL_length (g : M.Rl) : (relL g).length = 24 + g.name.size := by
  unfold relL
  simp only [List.length_append, num8_length, textL_length]
  omega
theorem mem_flat {α : Type} (f : α → List UInt8) : ∀ (l : List α) (x : α), x ∈ l → (f x).length ≤ (l.flatMap f).length
  | y :: r, x, h => by
    rw [List.flatMap_cons, List.length_append]
    rcases List.mem_cons.1 h with h | h
    · rw [h]; omega
    · have := mem_flat f r x h
      omega
theorem getD_mem {α : Type} (l : List α) (k : Nat) (d : α) (h : k < l.length) : l.getD k d ∈ l := by
  rw [List.getD_eq_getElem?_getD, List.getElem?_eq_getElem h]
  exact List.getElem_mem h
theorem fit_of {i : M.Im} (hf : FitsI i) (hl : Lim i) (hs : M.Short (bytesL i).length) : M.Fit i := by
  unfold M.Short at hs
  have e := bytesL_eq i []
  rw [List.append_nil] at e
  rw [e] at hs
  simp only [List.length_append, num8_length, textL_length] at hs
  obtain ⟨l1, l2, l3, l4⟩ := hl
  refine ⟨by unfold M.Short; omega, by unfold M.Short; omega, fun k hk => ?_, by unfold M.Short; omega, fun k hk => ?_, by unfold M.Short; omega, fun k hk => ?_, by unfold M.Short; omega, fun k hk => ?_, hf.entry⟩
  · have := mem_flat textL i.needs _ (getD_mem i.needs k M.nil hk)
    rw [textL_length] at this
    unfold M.Short M.strAt
    omega
  · have hm := getD_mem i.segs k M.sg0 hk
    have := mem_flat segL i.segs _ hm
    rw [segL_length] at this
    have g := hf.segs _ hm
    refine ⟨g.1, g.2.1, ?_⟩
    unfold M.Short M.sgAt
    omega
  · have hm := getD_mem i.syms k M.sy0 hk
    have := mem_flat symL i.syms _ hm
    rw [symL_length] at this
    have g := hf.syms _ hm
    refine ⟨?_, g.2⟩
    unfold M.Short M.syAt
    omega
  · have hm := getD_mem i.rels k M.rl0 hk
    have := mem_flat relL i.rels _ hm
    rw [relL_length] at this
    have g := hf.rels _ hm
    refine ⟨g.1, ?_, g.2.2⟩
    unfold M.Short M.rlAt
    omega
theorem short_i64 {n : Nat} (h : M.Short n) : M.I64 (n : Int) := by unfold M.Short at h; unfold M.I64; omega
theorem mem_get {α : Type} (l : List α) (d x : α) (h : x ∈ l) : ∃ k, k < l.length ∧ l.getD k d = x := by
  obtain ⟨k, hk, e⟩ := List.getElem_of_mem h
  exact ⟨k, hk, by rw [List.getD_eq_getElem?_getD, List.getElem?_eq_getElem hk]; exact e⟩
theorem of_fit {i : M.Im} (h : M.Fit i) : FitsI i := by
  refine ⟨short_i64 h.name, fun x hx => ?_, fun x hx => ?_, fun x hx => ?_, fun x hx => ?_, h.entry⟩
  · obtain ⟨k, hk, e⟩ := mem_get i.needs M.nil x hx
    rw [← e]
    exact short_i64 (h.need k hk)
  · obtain ⟨k, hk, e⟩ := mem_get i.segs M.sg0 x hx
    rw [← e]
    have := h.seg k hk
    exact ⟨this.1, this.2.1, short_i64 this.2.2⟩
  · obtain ⟨k, hk, e⟩ := mem_get i.syms M.sy0 x hx
    rw [← e]
    have := h.sym k hk
    exact ⟨short_i64 this.1, this.2⟩
  · obtain ⟨k, hk, e⟩ := mem_get i.rels M.rl0 x hx
    rw [← e]
    have := h.rel k hk
    exact ⟨this.1, short_i64 this.2.1, this.2.2⟩
end Go.Proofs.Ytafdgjpmhofinaa.W
