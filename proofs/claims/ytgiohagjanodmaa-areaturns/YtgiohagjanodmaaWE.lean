import Derived.Test.YtgiohagjanodmaaWD
import Derived.Test.YtgiohagjanodmaaM6
namespace Go.Proofs.Ytgiohagjanodmaa.W
open Go.RowKit
set_option linter.unusedVariables false

theorem turn_err (l : List M.Ar) (page pages q : Int) (how : M.St → M.St × Int) (h : (M.turnN l page pages q how).2 ≠ 0) : (M.turnN l page pages q how).1 = [] := by
  unfold M.turnN at h ⊢
  split
  · rename_i hc
    rw [if_pos hc] at h
    split
    · rename_i hp
      rw [if_pos hp] at h
      split
      · rename_i he
        rw [if_pos he] at h
        exact absurd rfl h
      · rfl
    · rfl
  · rfl
theorem turn_ok (l : List M.Ar) (page pages q : Int) (how : M.St → M.St × Int) (h : (M.turnN l page pages q how).2 = 0) :
    M.checkN l = 0 ∧ M.pagesB page pages = true ∧ M.protB q = true ∧ M.errFrom (M.spreadN l) how page.toNat pages.toNat = 0 ∧ (M.turnN l page pages q how).1 = M.gatherN (M.turned (M.spreadN l) how page (page + pages)) := by
  unfold M.turnN at h ⊢
  split
  · rename_i hc
    rw [if_pos hc] at h
    split
    · rename_i hp
      rw [if_pos hp] at h
      rw [Bool.and_eq_true] at hp
      split
      · rename_i he
        exact ⟨hc, hp.1, hp.2, he, rfl⟩
      · rename_i he
        rw [if_neg he] at h
        exact absurd h he
    · rename_i hp
      rw [if_neg hp] at h
      simp at h
  · rename_i hc
    rw [if_neg hc] at h
    exact absurd h hc

theorem fine_map (l : List M.Ar) (page t q : Int) (hc : M.checkN l = 0) (hp : 1 ≤ page) (hq : 0 ≤ q ∧ q ≤ 3) : M.Fine (M.turned (M.spreadN l) (howMap q) page t) :=
  M.fine_turned _ (M.fine_spread l hc) _ _ _ hp (fun s _ h => by
    unfold howMap at h ⊢
    cases hm : s.m
    · simp [hm] at h
    · simp [hm] at h) (fun s h => by
    unfold howMap
    cases hm : s.m
    · simpa [hm] using hq
    · simpa [hm] using h)
theorem fine_unmap (l : List M.Ar) (page t : Int) (hc : M.checkN l = 0) (hp : 1 ≤ page) : M.Fine (M.turned (M.spreadN l) howUnmap page t) :=
  M.fine_turned _ (M.fine_spread l hc) _ _ _ hp (fun s _ _ => rfl) (fun s _ => ⟨by simp [howUnmap, M.off], by simp [howUnmap, M.off]⟩)
theorem fine_protect (l : List M.Ar) (page t q : Int) (hc : M.checkN l = 0) (hp : 1 ≤ page) (hq : 0 ≤ q ∧ q ≤ 3) : M.Fine (M.turned (M.spreadN l) (howProtect q) page t) :=
  M.fine_turned _ (M.fine_spread l hc) _ _ _ hp (fun s hs h => by
    unfold howProtect at h ⊢
    cases hm : s.m
    · simp; exact hs hm
    · simp [hm] at h) (fun s h => by
    unfold howProtect
    cases hm : s.m
    · simpa [hm] using h
    · simpa [hm] using hq)

theorem prot_iff (q : Int) : M.protB q = true ↔ 0 ≤ q ∧ q ≤ 3 := ⟨fun h => of_decide_eq_true h, fun h => decide_eq_true h⟩

/-- what comes of Map, if it comes: right areas; the pages that were spoken of were not mapped, and are so now; the others are as they were -/
theorem map_keeps (l : List M.Ar) (page pages q : Int) (h : (mapN l page pages q).2 = 0) :
    M.checkN (mapN l page pages q).1 = 0 ∧ (∀ p : Nat, 1 ≤ p → p ≤ 255 →
      (page ≤ (p : Int) ∧ (p : Int) < page + pages → (M.findN l p).2 = false ∧ (M.findN (mapN l page pages q).1 p).2 = true ∧ (M.findN (mapN l page pages q).1 p).1.prot = q ∧ (M.findN (mapN l page pages q).1 p).1.zero = true) ∧
      (¬ (page ≤ (p : Int) ∧ (p : Int) < page + pages) → (M.findN (mapN l page pages q).1 p).2 = (M.findN l p).2 ∧ (M.findN (mapN l page pages q).1 p).1.prot = (M.findN l p).1.prot ∧ (M.findN (mapN l page pages q).1 p).1.zero = (M.findN l p).1.zero)) := by
  obtain ⟨hc, hpp, hq, he, hr⟩ := turn_ok _ _ _ _ _ h
  have hpb := (M.pagesB_iff page pages).1 hpp
  have hF := fine_map l page (page + pages) q hc hpb.1 ((prot_iff q).1 hq)
  have hr' : (mapN l page pages q).1 = _ := hr
  rw [hr']
  refine ⟨M.check_gather _ hF, fun p h1 h2 => ?_⟩
  have fg := M.find_gather _ hF p (by omega)
  have fs := M.find_spread l hc p
  refine ⟨fun hin => ?_, fun hout => ?_⟩
  · have he' := M.err_zero _ _ _ _ he p (by omega) (by omega)
    have hm : (M.spreadN l p).m = false := by
      unfold howMap at he'
      cases hm : (M.spreadN l p).m
      · rfl
      · simp [hm] at he'
    simp only [M.turned] at fg
    rw [if_pos hin] at fg
    unfold howMap at fg
    simp only [hm] at fg
    exact ⟨fs.1.trans hm, fg.1, fg.2.1, fg.2.2⟩
  · simp only [M.turned] at fg
    rw [if_neg hout] at fg
    exact ⟨fg.1.trans fs.1.symm, fg.2.1.trans fs.2.1.symm, fg.2.2.trans fs.2.2.symm⟩
theorem unmap_keeps (l : List M.Ar) (page pages : Int) (h : (unmapN l page pages).2 = 0) :
    M.checkN (unmapN l page pages).1 = 0 ∧ (∀ p : Nat, 1 ≤ p → p ≤ 255 →
      (page ≤ (p : Int) ∧ (p : Int) < page + pages → (M.findN (unmapN l page pages).1 p).2 = false) ∧
      (¬ (page ≤ (p : Int) ∧ (p : Int) < page + pages) → (M.findN (unmapN l page pages).1 p).2 = (M.findN l p).2 ∧ (M.findN (unmapN l page pages).1 p).1.prot = (M.findN l p).1.prot ∧ (M.findN (unmapN l page pages).1 p).1.zero = (M.findN l p).1.zero)) := by
  obtain ⟨hc, hpp, hq, he, hr⟩ := turn_ok _ _ _ _ _ h
  have hpb := (M.pagesB_iff page pages).1 hpp
  have hF := fine_unmap l page (page + pages) hc hpb.1
  have hr' : (unmapN l page pages).1 = _ := hr
  rw [hr']
  refine ⟨M.check_gather _ hF, fun p h1 h2 => ?_⟩
  have fg := M.find_gather _ hF p (by omega)
  have fs := M.find_spread l hc p
  refine ⟨fun hin => ?_, fun hout => ?_⟩
  · simp only [M.turned] at fg
    rw [if_pos hin] at fg
    exact fg.1
  · simp only [M.turned] at fg
    rw [if_neg hout] at fg
    exact ⟨fg.1.trans fs.1.symm, fg.2.1.trans fs.2.1.symm, fg.2.2.trans fs.2.2.symm⟩
theorem protect_keeps (l : List M.Ar) (page pages q : Int) (h : (protectN l page pages q).2 = 0) :
    M.checkN (protectN l page pages q).1 = 0 ∧ (∀ p : Nat, 1 ≤ p → p ≤ 255 →
      ((M.findN (protectN l page pages q).1 p).2 = (M.findN l p).2 ∧ (M.findN (protectN l page pages q).1 p).1.zero = (M.findN l p).1.zero) ∧
      (page ≤ (p : Int) ∧ (p : Int) < page + pages → (M.findN (protectN l page pages q).1 p).2 = true ∧ (M.findN (protectN l page pages q).1 p).1.prot = q) ∧
      (¬ (page ≤ (p : Int) ∧ (p : Int) < page + pages) → (M.findN (protectN l page pages q).1 p).1.prot = (M.findN l p).1.prot)) := by
  obtain ⟨hc, hpp, hq, he, hr⟩ := turn_ok _ _ _ _ _ h
  have hpb := (M.pagesB_iff page pages).1 hpp
  have hF := fine_protect l page (page + pages) q hc hpb.1 ((prot_iff q).1 hq)
  have hr' : (protectN l page pages q).1 = _ := hr
  rw [hr']
  refine ⟨M.check_gather _ hF, fun p h1 h2 => ?_⟩
  have fg := M.find_gather _ hF p (by omega)
  have fs := M.find_spread l hc p
  simp only [M.turned] at fg
  by_cases hin : page ≤ (p : Int) ∧ (p : Int) < page + pages
  · have he' := M.err_zero _ _ _ _ he p (by omega) (by omega)
    have hm : (M.spreadN l p).m = true := by
      unfold howProtect at he'
      cases hm : (M.spreadN l p).m
      · simp [hm] at he'
      · rfl
    rw [if_pos hin] at fg
    unfold howProtect at fg
    simp only [hm, if_true] at fg
    exact ⟨⟨fg.1.trans (fs.1.trans hm).symm, fg.2.2.trans fs.2.2.symm⟩, fun _ => ⟨fg.1, fg.2.1⟩, fun hout => absurd hin hout⟩
  · rw [if_neg hin] at fg
    exact ⟨⟨fg.1.trans fs.1.symm, fg.2.2.trans fs.2.2.symm⟩, fun h => absurd h hin, fun _ => fg.2.1.trans fs.2.1.symm⟩

theorem fit_map (l : List M.Ar) (page pages q : Int) : AllFit (mapN l page pages q).1 := by
  by_cases h : (mapN l page pages q).2 = 0
  · exact M.fits_of_check _ (map_keeps l page pages q h).1
  · rw [show (mapN l page pages q).1 = [] from turn_err _ _ _ _ _ h]; exact fit_nil
theorem fit_unmap (l : List M.Ar) (page pages : Int) : AllFit (unmapN l page pages).1 := by
  by_cases h : (unmapN l page pages).2 = 0
  · exact M.fits_of_check _ (unmap_keeps l page pages h).1
  · rw [show (unmapN l page pages).1 = [] from turn_err _ _ _ _ _ h]; exact fit_nil
theorem fit_protect (l : List M.Ar) (page pages q : Int) : AllFit (protectN l page pages q).1 := by
  by_cases h : (protectN l page pages q).2 = 0
  · exact M.fits_of_check _ (protect_keeps l page pages q h).1
  · rw [show (protectN l page pages q).1 = [] from turn_err _ _ _ _ _ h]; exact fit_nil

/-- Unmap comes, where the areas and the pages are right; else none of the three comes -/
theorem unmap_comes (l : List M.Ar) (page pages : Int) (hc : M.checkN l = 0) (hp : M.pagesB page pages = true) : (unmapN l page pages).2 = 0 := by
  unfold unmapN M.turnN
  rw [if_pos hc, if_pos (by rw [hp]; rfl), if_pos (M.errFrom_zero _ _ _ _ (fun k _ _ => rfl))]
theorem none_comes (l : List M.Ar) (page pages q : Int) (how : M.St → M.St × Int) (h : ¬ (M.checkN l = 0 ∧ M.pagesB page pages = true)) : (M.turnN l page pages q how).2 ≠ 0 := fun e => by
  obtain ⟨hc, hpp, _⟩ := turn_ok _ _ _ _ _ e
  exact h ⟨hc, hpp⟩
theorem not_both (l : List M.Ar) (page pages q : Int) (h : (mapN l page pages q).2 = 0) : (protectN l page pages q).2 ≠ 0 := fun e => by
  obtain ⟨hc, hpp, hq, he, _⟩ := turn_ok _ _ _ _ _ h
  obtain ⟨_, _, _, he2, _⟩ := turn_ok _ _ _ _ _ e
  have hpb := (M.pagesB_iff page pages).1 hpp
  have a := M.err_zero _ _ _ _ he page.toNat (by omega) (by omega)
  have b := M.err_zero _ _ _ _ he2 page.toNat (by omega) (by omega)
  unfold howMap at a
  unfold howProtect at b
  cases hm : (M.spreadN l page.toNat).m
  · simp [hm] at b
  · simp [hm] at a
end Go.Proofs.Ytgiohagjanodmaa.W
