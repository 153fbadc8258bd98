/- What the reference's reader comes to, in plain Lean. -/
import Derived.Test.YtafdgjpmhofinaaU4
namespace Go.Proofs.Ytafdgjpmhofinaa.W
open Go.RowKit
set_option linter.unusedVariables false

theorem Reads.back {α : Type} {E : Option (List UInt8) → α × Option (List UInt8)} {P : List UInt8 → Option (α × List UInt8)} (h : Reads E P) {o : Option (List UInt8)} {x : α} {l' : List UInt8} (he : E o = (x, some l')) : ∃ l, o = some l ∧ P l = some (x, l') := by
  cases o with
  | none =>
    have := h.bad
    rw [he] at this
    cases this
  | some l =>
    refine ⟨l, rfl, ?_⟩
    cases hp : P l with
    | none =>
      have := h.none_ l hp
      rw [he] at this
      cases this
    | some r =>
      obtain ⟨y, l2⟩ := r
      have := h.some_ l y l2 hp
      rw [he] at this
      injection this with h1 h2
      injection h2 with h2
      subst h1
      subst h2
      rfl
theorem imgR_parts {l l' : List UInt8} {i : M.Im} (h : imgR l = some (i, l')) : ∃ l1 l2 l3 l4 l5, textP l = some (i.name, l1) ∧ listR textP l1 = some (i.needs, l2) ∧ listR segP l2 = some (i.segs, l3) ∧ listR symP l3 = some (i.syms, l4) ∧ listR relP l4 = some (i.rels, l5) ∧ numP l5 = some (i.entry, l') := by
  unfold imgR at h
  cases e1 : textP l with
  | none => rw [e1] at h; cases h
  | some r1 =>
    obtain ⟨nm, l1⟩ := r1
    rw [e1] at h; simp only at h
    cases e2 : listR textP l1 with
    | none => rw [e2] at h; cases h
    | some r2 =>
      obtain ⟨ns, l2⟩ := r2
      rw [e2] at h; simp only at h
      cases e3 : listR segP l2 with
      | none => rw [e3] at h; cases h
      | some r3 =>
        obtain ⟨gs, l3⟩ := r3
        rw [e3] at h; simp only at h
        cases e4 : listR symP l3 with
        | none => rw [e4] at h; cases h
        | some r4 =>
          obtain ⟨ys, l4⟩ := r4
          rw [e4] at h; simp only at h
          cases e5 : listR relP l4 with
          | none => rw [e5] at h; cases h
          | some r5 =>
            obtain ⟨rs, l5⟩ := r5
            rw [e5] at h; simp only at h
            cases e6 : numP l5 with
            | none => rw [e6] at h; cases h
            | some r6 =>
              obtain ⟨en, l6⟩ := r6
              rw [e6] at h; simp only at h
              injection h with h
              injection h with h1 h2
              subst h1
              subst h2
              exact ⟨l1, l2, l3, l4, l5, rfl, e2, e3, e4, e5, e6⟩
theorem img_good {L l6 : List UInt8} {nm : ByteArray} {ns : List ByteArray} {gs : List M.Sg} {ys : List M.Sy} {rs : List M.Rl} {en : Int} {o1 o2 o3 o4 o5 : Option (List UInt8)} (h1 : textE (some L) = (nm, o1)) (h2 : listE textE o1 = (ns, o2)) (h3 : listE segE o2 = (gs, o3)) (h4 : listE symE o3 = (ys, o4)) (h5 : listE relE o4 = (rs, o5)) (h6 : numE o5 = (en, some l6)) :
    imgR L = some (⟨nm, ns, gs, ys, rs, en⟩, l6) := by
  obtain ⟨l5, rfl, e6⟩ := reads_num.back h6
  obtain ⟨l4, rfl, e5⟩ := (reads_list reads_rel).back h5
  obtain ⟨l3, rfl, e4⟩ := (reads_list reads_sym).back h4
  obtain ⟨l2, rfl, e3⟩ := (reads_list reads_seg).back h3
  obtain ⟨l1, rfl, e2⟩ := (reads_list reads_text).back h2
  obtain ⟨l0, e0, e1⟩ := reads_text.back h1
  injection e0 with e0
  subst e0
  exact imgR_eq e1 e2 e3 e4 e5 e6
theorem img_bad {L : List UInt8} {nm : ByteArray} {ns : List ByteArray} {gs : List M.Sg} {ys : List M.Sy} {rs : List M.Rl} {en : Int} {o1 o2 o3 o4 o5 : Option (List UInt8)} (h1 : textE (some L) = (nm, o1)) (h2 : listE textE o1 = (ns, o2)) (h3 : listE segE o2 = (gs, o3)) (h4 : listE symE o3 = (ys, o4)) (h5 : listE relE o4 = (rs, o5)) (h6 : numE o5 = (en, none)) :
    imgR L = none := by
  cases h : imgR L with
  | none => rfl
  | some r =>
    obtain ⟨i, l'⟩ := r
    obtain ⟨l1, l2, l3, l4, l5, e1, e2, e3, e4, e5, e6⟩ := imgR_parts h
    rw [reads_text.some_ _ _ _ e1] at h1
    injection h1 with _ h1
    rw [← h1, (reads_list reads_text).some_ _ _ _ e2] at h2
    injection h2 with _ h2
    rw [← h2, (reads_list reads_seg).some_ _ _ _ e3] at h3
    injection h3 with _ h3
    rw [← h3, (reads_list reads_sym).some_ _ _ _ e4] at h4
    injection h4 with _ h4
    rw [← h4, (reads_list reads_rel).some_ _ _ _ e5] at h5
    injection h5 with _ h5
    rw [← h5, reads_num.some_ _ _ _ e6] at h6
    injection h6 with _ h6
    cases h6
theorem fit_small {i : M.Im} (hf : FitsI i) (hs : (bytesL i).length ≤ 1048576) : M.Fit i := by
  have e := bytesL_eq i []
  rw [List.append_nil] at e
  rw [e] at hs
  simp only [List.length_append, num8_length, textL_length] at hs
  have g1 := flat_ge textL textL_ge i.needs
  have g2 := flat_ge segL segL_ge i.segs
  have g3 := flat_ge symL symL_ge i.syms
  have g4 := flat_ge relL relL_ge i.rels
  refine ⟨by unfold M.Short; omega, by unfold M.Short; omega, fun k hk => ?_, by unfold M.Short; omega, fun k hk => ?_, by unfold M.Short; omega, fun k hk => ?_, by unfold M.Short; omega, fun k hk => ?_, hf.entry⟩
  · have := mem_flat textL i.needs _ (getD_mem i.needs k M.nil hk)
    rw [textL_length] at this
    unfold M.Short M.strAt
    omega
  · have hm := getD_mem i.segs k M.sg0 hk
    have := mem_flat segL i.segs _ hm
    rw [segL_length] at this
    have g := hf.segs _ hm
    refine ⟨g.1, g.2.1, ?_⟩
    unfold M.Short M.sgAt
    omega
  · have hm := getD_mem i.syms k M.sy0 hk
    have := mem_flat symL i.syms _ hm
    rw [symL_length] at this
    have g := hf.syms _ hm
    refine ⟨?_, g.2⟩
    unfold M.Short M.syAt
    omega
  · have hm := getD_mem i.rels k M.rl0 hk
    have := mem_flat relL i.rels _ hm
    rw [relL_length] at this
    have g := hf.rels _ hm
    refine ⟨g.1, ?_, g.2.2⟩
    unfold M.Short M.rlAt
    omega
theorem fit_img {L l6 : List UInt8} {i : M.Im} (h : imgR L = some (i, l6)) (hL : L.length ≤ 1048576) : M.Fit i := by
  obtain ⟨h1, h2⟩ := imgR_some h
  refine fit_small h1 ?_
  rw [h2, List.length_append] at hL
  omega
/-- how ImageFrom ends -/
def OutF (w : World) : Option M.Im → Ending → World → Prop
  | some i, e, w' => (∃ a, e = .returned (.tuple #[.agg (M.cellsI a i), .bool true]) ∧ M.HasIm w' a i) ∧ Below w.heap.size w w'
  | none, e, w' => e = .returned (.tuple #[.agg #[.string ⟨#[]⟩, .slice none 0 0, .slice none 0 0, .slice none 0 0, .slice none 0 0, .int .i64 0], .bool false]) ∧ Below w.heap.size w w'
end Go.Proofs.Ytafdgjpmhofinaa.W
