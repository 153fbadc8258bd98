import Derived.Test.YtbgnagognnklbaaG23
import Derived.Test.YtbgnagognnklbaaG06
import Derived.Test.YtbgnagognnklbaaChecked
import Derived.Deep.Slices
import Derived.ProofKit
namespace Go.Proofs.Ytbgnagognnklbaa.AW
open Go.RowKit
set_option linter.unusedVariables false
set_option maxRecDepth 100000

theorem turn_err (l : List AM.Ar) (page pages q : Int) (how : AM.St → AM.St × Int) (h : (AM.turnN l page pages q how).2 ≠ 0) : (AM.turnN l page pages q how).1 = [] := by
  unfold AM.turnN at h ⊢
  split
  · rename_i hc
    rw [if_pos hc] at h
    split
    · rename_i hp
      rw [if_pos hp] at h
      split
      · rename_i he
        rw [if_pos he] at h
        exact absurd rfl h
      · rfl
    · rfl
  · rfl
theorem turn_ok (l : List AM.Ar) (page pages q : Int) (how : AM.St → AM.St × Int) (h : (AM.turnN l page pages q how).2 = 0) :
    AM.checkN l = 0 ∧ AM.pagesB page pages = true ∧ AM.protB q = true ∧ AM.errFrom (AM.spreadN l) how page.toNat pages.toNat = 0 ∧ (AM.turnN l page pages q how).1 = AM.gatherN (AM.turned (AM.spreadN l) how page (page + pages)) := by
  unfold AM.turnN at h ⊢
  split
  · rename_i hc
    rw [if_pos hc] at h
    split
    · rename_i hp
      rw [if_pos hp] at h
      rw [Bool.and_eq_true] at hp
      split
      · rename_i he
        exact ⟨hc, hp.1, hp.2, he, rfl⟩
      · rename_i he
        rw [if_neg he] at h
        exact absurd h he
    · rename_i hp
      rw [if_neg hp] at h
      simp at h
  · rename_i hc
    rw [if_neg hc] at h
    exact absurd h hc

theorem fine_map (l : List AM.Ar) (page t q : Int) (hc : AM.checkN l = 0) (hp : 1 ≤ page) (hq : 0 ≤ q ∧ q ≤ 3) : AM.Fine (AM.turned (AM.spreadN l) (howMap q) page t) :=
  AM.fine_turned _ (AM.fine_spread l hc) _ _ _ hp (fun s _ h => by
    unfold howMap at h ⊢
    cases hm : s.m
    · simp [hm] at h
    · simp [hm] at h) (fun s h => by
    unfold howMap
    cases hm : s.m
    · simpa [hm] using hq
    · simpa [hm] using h)
theorem fine_unmap (l : List AM.Ar) (page t : Int) (hc : AM.checkN l = 0) (hp : 1 ≤ page) : AM.Fine (AM.turned (AM.spreadN l) howUnmap page t) :=
  AM.fine_turned _ (AM.fine_spread l hc) _ _ _ hp (fun s _ _ => rfl) (fun s _ => ⟨by simp [howUnmap, AM.off], by simp [howUnmap, AM.off]⟩)
theorem fine_protect (l : List AM.Ar) (page t q : Int) (hc : AM.checkN l = 0) (hp : 1 ≤ page) (hq : 0 ≤ q ∧ q ≤ 3) : AM.Fine (AM.turned (AM.spreadN l) (howProtect q) page t) :=
  AM.fine_turned _ (AM.fine_spread l hc) _ _ _ hp (fun s hs h => by
    unfold howProtect at h ⊢
    cases hm : s.m
    · simp; exact hs hm
    · simp [hm] at h) (fun s h => by
    unfold howProtect
    cases hm : s.m
    · simpa [hm] using h
    · simpa [hm] using hq)

theorem prot_iff (q : Int) : AM.protB q = true ↔ 0 ≤ q ∧ q ≤ 3 := ⟨fun h => of_decide_eq_true h, fun h => decide_eq_true h⟩

/-- what comes of Map, if it comes: right areas; the pages that were spoken of were not mapped, and are so now; the others are as they were -/
theorem map_keeps (l : List AM.Ar) (page pages q : Int) (h : (mapN l page pages q).2 = 0) :
    AM.checkN (mapN l page pages q).1 = 0 ∧ (∀ p : Nat, 1 ≤ p → p ≤ 255 →
      (page ≤ (p : Int) ∧ (p : Int) < page + pages → (AM.findN l p).2 = false ∧ (AM.findN (mapN l page pages q).1 p).2 = true ∧ (AM.findN (mapN l page pages q).1 p).1.prot = q ∧ (AM.findN (mapN l page pages q).1 p).1.zero = true) ∧
      (¬ (page ≤ (p : Int) ∧ (p : Int) < page + pages) → (AM.findN (mapN l page pages q).1 p).2 = (AM.findN l p).2 ∧ (AM.findN (mapN l page pages q).1 p).1.prot = (AM.findN l p).1.prot ∧ (AM.findN (mapN l page pages q).1 p).1.zero = (AM.findN l p).1.zero)) := by
  obtain ⟨hc, hpp, hq, he, hr⟩ := turn_ok _ _ _ _ _ h
  have hpb := (AM.pagesB_iff page pages).1 hpp
  have hF := fine_map l page (page + pages) q hc hpb.1 ((prot_iff q).1 hq)
  have hr' : (mapN l page pages q).1 = _ := hr
  rw [hr']
  refine ⟨AM.check_gather _ hF, fun p h1 h2 => ?_⟩
  have fg := AM.find_gather _ hF p (by omega)
  have fs := AM.find_spread l hc p
  refine ⟨fun hin => ?_, fun hout => ?_⟩
  · have he' := AM.err_zero _ _ _ _ he p (by omega) (by omega)
    have hm : (AM.spreadN l p).m = false := by
      unfold howMap at he'
      cases hm : (AM.spreadN l p).m
      · rfl
      · simp [hm] at he'
    simp only [AM.turned] at fg
    rw [if_pos hin] at fg
    unfold howMap at fg
    simp only [hm] at fg
    exact ⟨fs.1.trans hm, fg.1, fg.2.1, fg.2.2⟩
  · simp only [AM.turned] at fg
    rw [if_neg hout] at fg
    exact ⟨fg.1.trans fs.1.symm, fg.2.1.trans fs.2.1.symm, fg.2.2.trans fs.2.2.symm⟩
theorem unmap_keeps (l : List AM.Ar) (page pages : Int) (h : (unmapN l page pages).2 = 0) :
    AM.checkN (unmapN l page pages).1 = 0 ∧ (∀ p : Nat, 1 ≤ p → p ≤ 255 →
      (page ≤ (p : Int) ∧ (p : Int) < page + pages → (AM.findN (unmapN l page pages).1 p).2 = false) ∧
      (¬ (page ≤ (p : Int) ∧ (p : Int) < page + pages) → (AM.findN (unmapN l page pages).1 p).2 = (AM.findN l p).2 ∧ (AM.findN (unmapN l page pages).1 p).1.prot = (AM.findN l p).1.prot ∧ (AM.findN (unmapN l page pages).1 p).1.zero = (AM.findN l p).1.zero)) := by
  obtain ⟨hc, hpp, hq, he, hr⟩ := turn_ok _ _ _ _ _ h
  have hpb := (AM.pagesB_iff page pages).1 hpp
  have hF := fine_unmap l page (page + pages) hc hpb.1
  have hr' : (unmapN l page pages).1 = _ := hr
  rw [hr']
  refine ⟨AM.check_gather _ hF, fun p h1 h2 => ?_⟩
  have fg := AM.find_gather _ hF p (by omega)
  have fs := AM.find_spread l hc p
  refine ⟨fun hin => ?_, fun hout => ?_⟩
  · simp only [AM.turned] at fg
    rw [if_pos hin] at fg
    exact fg.1
  · simp only [AM.turned] at fg
    rw [if_neg hout] at fg
    exact ⟨fg.1.trans fs.1.symm, fg.2.1.trans fs.2.1.symm, fg.2.2.trans fs.2.2.symm⟩
theorem protect_keeps (l : List AM.Ar) (page pages q : Int) (h : (protectN l page pages q).2 = 0) :
    AM.checkN (protectN l page pages q).1 = 0 ∧ (∀ p : Nat, 1 ≤ p → p ≤ 255 →
      ((AM.findN (protectN l page pages q).1 p).2 = (AM.findN l p).2 ∧ (AM.findN (protectN l page pages q).1 p).1.zero = (AM.findN l p).1.zero) ∧
      (page ≤ (p : Int) ∧ (p : Int) < page + pages → (AM.findN (protectN l page pages q).1 p).2 = true ∧ (AM.findN (protectN l page pages q).1 p).1.prot = q) ∧
      (¬ (page ≤ (p : Int) ∧ (p : Int) < page + pages) → (AM.findN (protectN l page pages q).1 p).1.prot = (AM.findN l p).1.prot)) := by
  obtain ⟨hc, hpp, hq, he, hr⟩ := turn_ok _ _ _ _ _ h
  have hpb := (AM.pagesB_iff page pages).1 hpp
  have hF := fine_protect l page (page + pages) q hc hpb.1 ((prot_iff q).1 hq)
  have hr' : (protectN l page pages q).1 = _ := hr
  rw [hr']
  refine ⟨AM.check_gather _ hF, fun p h1 h2 => ?_⟩
  have fg := AM.find_gather _ hF p (by omega)
  have fs := AM.find_spread l hc p
  simp only [AM.turned] at fg
  by_cases hin : page ≤ (p : Int) ∧ (p : Int) < page + pages
  · have he' := AM.err_zero _ _ _ _ he p (by omega) (by omega)
    have hm : (AM.spreadN l p).m = true := by
      unfold howProtect at he'
      cases hm : (AM.spreadN l p).m
      · simp [hm] at he'
      · rfl
    rw [if_pos hin] at fg
    unfold howProtect at fg
    simp only [hm, if_true] at fg
    exact ⟨⟨fg.1.trans (fs.1.trans hm).symm, fg.2.2.trans fs.2.2.symm⟩, fun _ => ⟨fg.1, fg.2.1⟩, fun hout => absurd hin hout⟩
  · rw [if_neg hin] at fg
    exact ⟨⟨fg.1.trans fs.1.symm, fg.2.2.trans fs.2.2.symm⟩, fun h => absurd h hin, fun _ => fg.2.1.trans fs.2.1.symm⟩

theorem fit_map (l : List AM.Ar) (page pages q : Int) : AllFit (mapN l page pages q).1 := by
  by_cases h : (mapN l page pages q).2 = 0
  · exact AM.fits_of_check _ (map_keeps l page pages q h).1
  · rw [show (mapN l page pages q).1 = [] from turn_err _ _ _ _ _ h]; exact fit_nil
theorem fit_unmap (l : List AM.Ar) (page pages : Int) : AllFit (unmapN l page pages).1 := by
  by_cases h : (unmapN l page pages).2 = 0
  · exact AM.fits_of_check _ (unmap_keeps l page pages h).1
  · rw [show (unmapN l page pages).1 = [] from turn_err _ _ _ _ _ h]; exact fit_nil
theorem fit_protect (l : List AM.Ar) (page pages q : Int) : AllFit (protectN l page pages q).1 := by
  by_cases h : (protectN l page pages q).2 = 0
  · exact AM.fits_of_check _ (protect_keeps l page pages q h).1
  · rw [show (protectN l page pages q).1 = [] from turn_err _ _ _ _ _ h]; exact fit_nil

/-- Unmap comes, where the areas and the pages are right; else none of the three comes -/
theorem unmap_comes (l : List AM.Ar) (page pages : Int) (hc : AM.checkN l = 0) (hp : AM.pagesB page pages = true) : (unmapN l page pages).2 = 0 := by
  unfold unmapN AM.turnN
  rw [if_pos hc, if_pos (by rw [hp]; rfl), if_pos (AM.errFrom_zero _ _ _ _ (fun k _ _ => rfl))]
theorem none_comes (l : List AM.Ar) (page pages q : Int) (how : AM.St → AM.St × Int) (h : ¬ (AM.checkN l = 0 ∧ AM.pagesB page pages = true)) : (AM.turnN l page pages q how).2 ≠ 0 := fun e => by
  obtain ⟨hc, hpp, _⟩ := turn_ok _ _ _ _ _ e
  exact h ⟨hc, hpp⟩
theorem not_both (l : List AM.Ar) (page pages q : Int) (h : (mapN l page pages q).2 = 0) : (protectN l page pages q).2 ≠ 0 := fun e => by
  obtain ⟨hc, hpp, hq, he, _⟩ := turn_ok _ _ _ _ _ h
  obtain ⟨_, _, _, he2, _⟩ := turn_ok _ _ _ _ _ e
  have hpb := (AM.pagesB_iff page pages).1 hpp
  have a := AM.err_zero _ _ _ _ he page.toNat (by omega) (by omega)
  have b := AM.err_zero _ _ _ _ he2 page.toNat (by omega) (by omega)
  unfold howMap at a
  unfold howProtect at b
  cases hm : (AM.spreadN l page.toNat).m
  · simp [hm] at b
  · simp [hm] at a
end Go.Proofs.Ytbgnagognnklbaa.AW
/- The reading of a list of areas that came in. -/
namespace Go.Proofs.Ytbgnagognnklbaa.AW
open Go.RowKit Go.Deep
set_option linter.unusedVariables false
set_option maxRecDepth 100000

theorem cells24 : Try.prog.cellsOf 99 = 4 := by kernel_rfl
theorem cells3 : Try.prog.cellsOf 3 = 1 := by kernel_rfl
theorem cells4 : Try.prog.cellsOf 4 = 1 := by kernel_rfl

theorem i64_of (n : Int) (h : (Lit.int .i64 n).wf = true) : I64 n := by
  simp only [Lit.wf, IntKind.min, IntKind.max, IntKind.signed, IntKind.bits, Bool.and_eq_true, decide_eq_true_eq, if_true] at h
  unfold I64
  omega

section
variable {H : Type} {enc : TypeId × Value → H} {w : World} {base : Nat} {spare : Nat → Bool} {held : Bool}

theorem one_area {n : Nat} {a : Addr} {cs : List Value} {x : DataW H × List MemPlace} (hc : w.cells? base a 4 = some cs) (h : DataW.trod enc Try.prog w base spare held n 99 cs = some x) :
    ∃ q : Int × Int × Int × Bool, w.cell? (a.add 0) = some (.int .i64 q.1) ∧ w.cell? (a.add 1) = some (.int .i64 q.2.1) ∧ w.cell? (a.add 2) = some (.int .i64 q.2.2.1) ∧ w.cell? (a.add 3) = some (.bool q.2.2.2) ∧ I64 q.1 ∧ I64 q.2.1 ∧ I64 q.2.2.1 := by
  obtain ⟨_, hlen, hcell⟩ := World.cells?_some hc
  obtain ⟨xs, k, hk, hxy, _, hxl, hf⟩ := DataW.trod_struct Try.underlying99 h
  match cs, hlen with
  | [v0, v1, v2, v3], _ =>
    have g0 : DataW.trod enc Try.prog w base spare held k 3 (([v0, v1, v2, v3].drop 0).take (Try.prog.cellsOf 3)) = xs[0]? := hf 0 _ rfl
    have g1 : DataW.trod enc Try.prog w base spare held k 3 (([v0, v1, v2, v3].drop 1).take (Try.prog.cellsOf 3)) = xs[1]? := hf 1 _ rfl
    have g2 : DataW.trod enc Try.prog w base spare held k 3 (([v0, v1, v2, v3].drop 2).take (Try.prog.cellsOf 3)) = xs[2]? := hf 2 _ rfl
    have g3 : DataW.trod enc Try.prog w base spare held k 4 (([v0, v1, v2, v3].drop 3).take (Try.prog.cellsOf 4)) = xs[3]? := hf 3 _ rfl
    simp only [cells3, cells4] at g0 g1 g2 g3
    have e0 := hcell 0 (by omega)
    have e1 := hcell 1 (by omega)
    have e2 := hcell 2 (by omega)
    have e3 := hcell 3 (by omega)
    match xs, hxl with
    | [y0, y1, y2, y3], _ =>
      obtain ⟨m0, c0, _, w0⟩ := DataW.trod_int Try.underlying3 (show DataW.trod enc Try.prog w base spare held k 3 [v0] = some y0 from g0)
      obtain ⟨m1, c1, _, w1⟩ := DataW.trod_int Try.underlying3 (show DataW.trod enc Try.prog w base spare held k 3 [v1] = some y1 from g1)
      obtain ⟨m2, c2, _, w2⟩ := DataW.trod_int Try.underlying3 (show DataW.trod enc Try.prog w base spare held k 3 [v2] = some y2 from g2)
      obtain ⟨b3, c3, _⟩ := DataW.trod_bool Try.underlying4 (show DataW.trod enc Try.prog w base spare held k 4 [v3] = some y3 from g3)
      simp only [List.cons.injEq, and_true] at c0 c1 c2 c3
      subst c0; subst c1; subst c2; subst c3
      exact ⟨(m0, m1, m2, b3), e0, e1, e2, e3, i64_of _ w0, i64_of _ w1, i64_of _ w2⟩

theorem open_areas {fuel : Nat} {a0 : Option Addr} {len cap : Nat} {x : DataW H × List MemPlace} (h : DataW.trod enc Try.prog w base spare held fuel 29 [.slice a0 len cap] = some x) :
    ∃ l : List AM.Ar, l.length = len ∧ Has w (.slice a0 len cap) l ∧ (∀ i, i < l.length → AM.Fits (AM.at_ l i)) ∧ (len = 0 ∨ ∃ el sp, x.1 = .slice el sp ∧ el.length = len) := by
  rcases open_slice Try.underlying29 h with ⟨hcs, _⟩ | ⟨a, len', cap', m, n, D, Pl, hcs, hb, hl, hm, hmm, rfl, hx⟩
  · simp at hcs
    obtain ⟨rfl, rfl, rfl⟩ := hcs
    exact ⟨[], rfl, ⟨none, 0, rfl, .inl rfl⟩, fun i hi => by simp at hi, .inl rfl⟩
  · simp at hcs
    obtain ⟨rfl, rfl, rfl⟩ := hcs
    have hlm : len ≤ m := by rw [hmm]; split <;> omega
    have each : ∀ i, i < len → ∃ q : Int × Int × Int × Bool, w.cell? (a.add (i * 4)) = some (.int .i64 q.1) ∧ w.cell? (a.add (i * 4 + 1)) = some (.int .i64 q.2.1) ∧ w.cell? (a.add (i * 4 + 2)) = some (.int .i64 q.2.2.1) ∧ w.cell? (a.add (i * 4 + 3)) = some (.bool q.2.2.2) ∧ I64 q.1 ∧ I64 q.2.1 ∧ I64 q.2.2.1 := by
      intro i hi
      obtain ⟨cs', h1, h2⟩ := hx i (by omega)
      rw [cells24] at h1
      obtain ⟨q, e0, e1, e2, e3, f⟩ := one_area h1 h2
      rw [add_add] at e0 e1 e2 e3
      exact ⟨q, e0, e1, e2, e3, f⟩
    obtain ⟨g, hg⟩ := choose_lt each
    have hat : ∀ i, i < len → AM.at_ ((List.range len).map fun i => (⟨(g i).1, (g i).2.1, (g i).2.2.1, (g i).2.2.2⟩ : AM.Ar)) i = ⟨(g i).1, (g i).2.1, (g i).2.2.1, (g i).2.2.2⟩ := by
      intro i hi
      simp [AM.at_, hi]
    refine ⟨(List.range len).map fun i => ⟨(g i).1, (g i).2.1, (g i).2.2.1, (g i).2.2.2⟩, by simp, ?_, fun i hi => ?_, .inr ⟨_, _, rfl, by simp⟩⟩
    · by_cases h0 : len = 0
      · subst h0
        exact ⟨some a, cap, by simp, .inl (by simp)⟩
      · obtain ⟨b, off, spot⟩ := a
        have hc := (hg 0 (by omega)).1
        have hspot : spot = none := by simpa [Addr.add] using World.cell?_spot hc
        subst hspot
        refine ⟨some ⟨b, off, none⟩, cap, by simp, .inr ⟨b, off, rfl, fun i hi => ?_⟩⟩
        have hi' : i < len := by simpa using hi
        rw [hat i hi']
        obtain ⟨e0, e1, e2, e3, _⟩ := hg i hi'
        rw [Addr.add_lit] at e0 e1 e2 e3
        exact ⟨e0, by rw [Nat.add_assoc]; exact e1, by rw [Nat.add_assoc]; exact e2, by rw [Nat.add_assoc]; exact e3⟩
    · have hi' : i < len := by simpa using hi
      rw [hat i hi']
      obtain ⟨_, _, _, _, f1, f2, f3⟩ := hg i hi'
      exact ⟨f1, f2, f3⟩
end
end Go.Proofs.Ytbgnagognnklbaa.AW
