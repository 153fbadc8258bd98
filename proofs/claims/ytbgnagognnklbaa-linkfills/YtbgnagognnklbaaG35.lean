import Derived.Test.YtbgnagognnklbaaG34
import Derived.Deep.Upon
/- The linker: main and the libraries in one row. -/
namespace Go.Proofs.Ytbgnagognnklbaa.LW
open Go.RowKit
open Go.Proofs.Ytbgnagognnklbaa.W (hideC)
set_option linter.unusedVariables false
set_option maxRecDepth 100000

theorem infoIm : (Try.prog.info? 27).map (fun i => (i.zero, i.size, i.bytes)) = some (some (.agg #[.string ⟨#[]⟩, .slice none 0 0, .slice none 0 0, .slice none 0 0, .slice none 0 0, .int .i64 0]), 6, 120) := by kernel_rfl
theorem lie_news {w : World} {b off : Nat} {l : List LM.Li} (h : LM.LieI w b off l) : ∀ j u, (l.flatMap LM.cellI)[j]? = some u → w.cell? ((⟨b, off, none⟩ : Addr).add j) = some u := fun j u hj => by
  obtain ⟨k, r, hr, rfl⟩ : ∃ k r, r < 6 ∧ j = k * 6 + r := ⟨j / 6, j % 6, by omega, by omega⟩
  have hlen : ∀ l : List LM.Li, (l.flatMap LM.cellI).length = l.length * 6 := fun l => by
    induction l with
    | nil => rfl
    | cons a r ih => rw [List.flatMap_cons, List.length_append, ih, List.length_cons]; show 6 + _ = _; omega
  have hk : k < l.length := by
    obtain ⟨hlt, _⟩ := List.getElem?_eq_some_iff.1 hj
    rw [hlen] at hlt
    omega
  rw [flat_get LM.cellI 6 (fun _ => rfl) LM.li0 l k r hk hr] at hj
  obtain ⟨⟨c0, c1, c2, c3, c4, c5⟩, _⟩ := h k hk
  rw [Addr.add_lit, ← Nat.add_assoc]
  match r, hr with
  | 0, _ => exact c0.trans hj
  | 1, _ => exact c1.trans hj
  | 2, _ => exact c2.trans hj
  | 3, _ => exact c3.trans hj
  | 4, _ => exact c4.trans hj
  | 5, _ => exact c5.trans hj
theorem row_im {w : World} {base : Nat} {g cap : Nat} {l : List LM.Li} (h : w.ownsRow base 27 6 (.slice (some ⟨g, 0, none⟩) l.length cap) l.length (l.flatMap LM.cellI)) (hg : g < w.heap.size) (hi : ∀ k, k < l.length → M.HasIm w (LM.liAt l k).a (LM.liAt l k).i) :
    LM.HasI w (some ⟨g, 0, none⟩) l := fun hl => by
  refine ⟨g, 0, rfl, hg, fun k hk => ?_⟩
  rw [Nat.zero_add]
  have hh : ∀ j, j < 6 → w.cell? ⟨g, k * 6 + j, none⟩ = (LM.cellI (LM.liAt l k))[j]? := fun j hj => (h.cellAt _ (by omega)).trans (flat_get LM.cellI 6 (fun _ => rfl) LM.li0 l k j hk hj)
  exact ⟨⟨hh 0 (by omega), hh 1 (by omega), hh 2 (by omega), hh 3 (by omega), hh 4 (by omega), hh 5 (by omega)⟩, hi k hk⟩
/-- 'append([]api.Image{main}, libs...)' -/
theorem wpList_append_libs {ops : Array Oper} {rest : List Oper} {o : Oper} {a : Act} {w : World} {Q : Exit → Act → World → Prop} (hgd : o.guard = none) (s x : Operand)
    (ho : o.op = .call { callee := .builtin .append, args := #[s, x], argTypes := #[28, 28] })
    (base : Nat) (p : LM.Li) (g0 : Nat) (hs : a.eval s = .slice (some ⟨g0, 0, none⟩) 1 1) (hown : w.ownsRow base 27 6 (.slice (some ⟨g0, 0, none⟩) 1 1) 1 (LM.cellI p))
    (ao : Option Addr) (c : Nat) (libs : List LM.Li) (hx : a.eval x = .slice ao libs.length c) (hlie : LM.HasI w ao libs) (h6 : libs.length ≤ 6) (hbase : base ≤ w.heap.size)
    (h : ∀ g cap w', w'.ownsRow base 27 6 (.slice (some ⟨g, 0, none⟩) (libs.length + 1) cap) (libs.length + 1) ((p :: libs).flatMap LM.cellI) → w.grownBy w' (some g0) → g < w'.heap.size → wpList Try.prog ops Q rest (a.put o.dst (.slice (some ⟨g, 0, none⟩) (libs.length + 1) cap)) w') : wpList Try.prog ops Q (o :: rest) a w := by
  obtain ⟨i0, hin, hz0, hz1, hz2⟩ := info_parts infoIm
  by_cases h0 : 0 < libs.length
  · obtain ⟨b, off, rfl, hb, hl⟩ := hlie h0
    have hlen : ∀ l : List LM.Li, (l.flatMap LM.cellI).length = l.length * 6 := fun l => by
      induction l with
      | nil => rfl
      | cons a r ih => rw [List.flatMap_cons, List.length_append, ih, List.length_cons]; show 6 + _ = _; omega
    have hone : ∀ u ∈ libs.flatMap LM.cellI, u.oneCell' = true := fun u hu => by
      obtain ⟨y, _, hy⟩ := List.mem_flatMap.1 hu
      simp only [LM.cellI, M.cellsI] at hy
      simp at hy
      rcases hy with rfl | rfl | rfl | rfl | rfl | rfl <;> rfl
    refine wpList_append_lies w hgd s x 28 ho base 27 i0 (.agg #[.string ⟨#[]⟩, .slice none 0 0, .slice none 0 0, .slice none 0 0, .slice none 0 0, .int .i64 0]) 6 120 Try.underlying28 hin hz0 hz1 hz2 rfl (by decide) _ 1 _ hs hown ⟨b, off, none⟩ libs.length c (libs.flatMap LM.cellI) hx (hlen _) (lie_news hl) hone h0 (by unfold maxLen; omega) (by omega) hbase _ rfl ?_
    intro g cap w' h2 h3 _ h5
    have e : 1 + libs.length = libs.length + 1 := Nat.add_comm _ _
    rw [e] at h2 ⊢
    exact h g cap w' h2 h3 h5
  · have e0 : libs = [] := List.eq_nil_of_length_eq_zero (by omega)
    subst e0
    have hg0 : g0 < w.heap.size := (hown.lt g0 rfl).2
    refine wpList_plain hgd fun K hK => ?_
    have hsrc : Src Try.prog i0.size 28 (.slice ao 0 c) 0 [] w := ⟨.inl ⟨_, Try.underlying28⟩, fun w' => by simp [Builtin.lenOf], by cases ao <;> simp [Builtin.firstCells, loadCells, loadCellsFrom], by cases ao <;> simp [Builtin.firstCells, loadCells, loadCellsFrom], by simp, by simp⟩
    have hr := run_append_nothing (P := Try.prog) w 28 28 o.type 27 i0 Try.underlying28 hin (some ⟨g0, 0, none⟩) 1 1 (Nat.le_refl _) (.slice ao 0 c) hsrc
    have hx' : a.eval x = .slice ao 0 c := hx
    unfold Oper.wp execOp
    simp only [ho, resolve, invoke, builtin, Sem.run_bind, Sem.run_pure, Result.andThen_ok, List.map_toArray, List.map_cons, List.map_nil, hs, hx', hr]
    refine hK _ _ (h g0 1 w ?_ ⟨rfl, rfl, rfl, Nat.le_refl _, fun _ _ _ => rfl⟩ hg0)
    have e : ([p].flatMap LM.cellI) = LM.cellI p := by simp
    rw [e]
    exact hown
end Go.Proofs.Ytbgnagognnklbaa.LW
