import Derived.Test.YteieplodndfbhaaGK06
import Derived.Test.YteieplodndfbhaaGK01
import Derived.Test.YteieplodndfbhaaGK05
import Derived.Test.YteieplodndfbhaaGK04
import Derived.Test.YteieplodndfbhaaProg
import Derived.Test.YteieplodndfbhaaGK00
import Derived.Test.YteieplodndfbhaaGK02
import Derived.WalkLawsBesides
import Derived.WalkSpells
import Derived.Laws.BytesArg
import Derived.Laws.OwnMore
namespace Go.Proofs.Yteieplodndfbhaa.AW
open Go.RowKit
set_option linter.unusedVariables false
set_option maxRecDepth 100000

theorem turn_err (l : List AM.Ar) (page pages q : Int) (how : AM.St → AM.St × Int) (h : (AM.turnN l page pages q how).2 ≠ 0) : (AM.turnN l page pages q how).1 = [] := by
  unfold AM.turnN at h ⊢
  split
  · rename_i hc
    rw [if_pos hc] at h
    split
    · rename_i hp
      rw [if_pos hp] at h
      split
      · rename_i he
        rw [if_pos he] at h
        exact absurd rfl h
      · rfl
    · rfl
  · rfl
theorem turn_ok (l : List AM.Ar) (page pages q : Int) (how : AM.St → AM.St × Int) (h : (AM.turnN l page pages q how).2 = 0) :
    AM.checkN l = 0 ∧ AM.pagesB page pages = true ∧ AM.protB q = true ∧ AM.errFrom (AM.spreadN l) how page.toNat pages.toNat = 0 ∧ (AM.turnN l page pages q how).1 = AM.gatherN (AM.turned (AM.spreadN l) how page (page + pages)) := by
  unfold AM.turnN at h ⊢
  split
  · rename_i hc
    rw [if_pos hc] at h
    split
    · rename_i hp
      rw [if_pos hp] at h
      rw [Bool.and_eq_true] at hp
      split
      · rename_i he
        exact ⟨hc, hp.1, hp.2, he, rfl⟩
      · rename_i he
        rw [if_neg he] at h
        exact absurd h he
    · rename_i hp
      rw [if_neg hp] at h
      simp at h
  · rename_i hc
    rw [if_neg hc] at h
    exact absurd h hc

theorem fine_map (l : List AM.Ar) (page t q : Int) (hc : AM.checkN l = 0) (hp : 1 ≤ page) (hq : 0 ≤ q ∧ q ≤ 3) : AM.Fine (AM.turned (AM.spreadN l) (howMap q) page t) :=
  AM.fine_turned _ (AM.fine_spread l hc) _ _ _ hp (fun s _ h => by
    unfold howMap at h ⊢
    cases hm : s.m
    · simp [hm] at h
    · simp [hm] at h) (fun s h => by
    unfold howMap
    cases hm : s.m
    · simpa [hm] using hq
    · simpa [hm] using h)
theorem fine_unmap (l : List AM.Ar) (page t : Int) (hc : AM.checkN l = 0) (hp : 1 ≤ page) : AM.Fine (AM.turned (AM.spreadN l) howUnmap page t) :=
  AM.fine_turned _ (AM.fine_spread l hc) _ _ _ hp (fun s _ _ => rfl) (fun s _ => ⟨by simp [howUnmap, AM.off], by simp [howUnmap, AM.off]⟩)
theorem fine_protect (l : List AM.Ar) (page t q : Int) (hc : AM.checkN l = 0) (hp : 1 ≤ page) (hq : 0 ≤ q ∧ q ≤ 3) : AM.Fine (AM.turned (AM.spreadN l) (howProtect q) page t) :=
  AM.fine_turned _ (AM.fine_spread l hc) _ _ _ hp (fun s hs h => by
    unfold howProtect at h ⊢
    cases hm : s.m
    · simp; exact hs hm
    · simp [hm] at h) (fun s h => by
    unfold howProtect
    cases hm : s.m
    · simpa [hm] using h
    · simpa [hm] using hq)

theorem prot_iff (q : Int) : AM.protB q = true ↔ 0 ≤ q ∧ q ≤ 3 := ⟨fun h => of_decide_eq_true h, fun h => decide_eq_true h⟩

/-- what comes of Map, if it comes: right areas; the pages that were spoken of were not mapped, and are so now; the others are as they were -/
theorem map_keeps (l : List AM.Ar) (page pages q : Int) (h : (mapN l page pages q).2 = 0) :
    AM.checkN (mapN l page pages q).1 = 0 ∧ (∀ p : Nat, 1 ≤ p → p ≤ 255 →
      (page ≤ (p : Int) ∧ (p : Int) < page + pages → (AM.findN l p).2 = false ∧ (AM.findN (mapN l page pages q).1 p).2 = true ∧ (AM.findN (mapN l page pages q).1 p).1.prot = q ∧ (AM.findN (mapN l page pages q).1 p).1.zero = true) ∧
      (¬ (page ≤ (p : Int) ∧ (p : Int) < page + pages) → (AM.findN (mapN l page pages q).1 p).2 = (AM.findN l p).2 ∧ (AM.findN (mapN l page pages q).1 p).1.prot = (AM.findN l p).1.prot ∧ (AM.findN (mapN l page pages q).1 p).1.zero = (AM.findN l p).1.zero)) := by
  obtain ⟨hc, hpp, hq, he, hr⟩ := turn_ok _ _ _ _ _ h
  have hpb := (AM.pagesB_iff page pages).1 hpp
  have hF := fine_map l page (page + pages) q hc hpb.1 ((prot_iff q).1 hq)
  have hr' : (mapN l page pages q).1 = _ := hr
  rw [hr']
  refine ⟨AM.check_gather _ hF, fun p h1 h2 => ?_⟩
  have fg := AM.find_gather _ hF p (by omega)
  have fs := AM.find_spread l hc p
  refine ⟨fun hin => ?_, fun hout => ?_⟩
  · have he' := AM.err_zero _ _ _ _ he p (by omega) (by omega)
    have hm : (AM.spreadN l p).m = false := by
      unfold howMap at he'
      cases hm : (AM.spreadN l p).m
      · rfl
      · simp [hm] at he'
    simp only [AM.turned] at fg
    rw [if_pos hin] at fg
    unfold howMap at fg
    simp only [hm] at fg
    exact ⟨fs.1.trans hm, fg.1, fg.2.1, fg.2.2⟩
  · simp only [AM.turned] at fg
    rw [if_neg hout] at fg
    exact ⟨fg.1.trans fs.1.symm, fg.2.1.trans fs.2.1.symm, fg.2.2.trans fs.2.2.symm⟩
theorem unmap_keeps (l : List AM.Ar) (page pages : Int) (h : (unmapN l page pages).2 = 0) :
    AM.checkN (unmapN l page pages).1 = 0 ∧ (∀ p : Nat, 1 ≤ p → p ≤ 255 →
      (page ≤ (p : Int) ∧ (p : Int) < page + pages → (AM.findN (unmapN l page pages).1 p).2 = false) ∧
      (¬ (page ≤ (p : Int) ∧ (p : Int) < page + pages) → (AM.findN (unmapN l page pages).1 p).2 = (AM.findN l p).2 ∧ (AM.findN (unmapN l page pages).1 p).1.prot = (AM.findN l p).1.prot ∧ (AM.findN (unmapN l page pages).1 p).1.zero = (AM.findN l p).1.zero)) := by
  obtain ⟨hc, hpp, hq, he, hr⟩ := turn_ok _ _ _ _ _ h
  have hpb := (AM.pagesB_iff page pages).1 hpp
  have hF := fine_unmap l page (page + pages) hc hpb.1
  have hr' : (unmapN l page pages).1 = _ := hr
  rw [hr']
  refine ⟨AM.check_gather _ hF, fun p h1 h2 => ?_⟩
  have fg := AM.find_gather _ hF p (by omega)
  have fs := AM.find_spread l hc p
  refine ⟨fun hin => ?_, fun hout => ?_⟩
  · simp only [AM.turned] at fg
    rw [if_pos hin] at fg
    exact fg.1
  · simp only [AM.turned] at fg
    rw [if_neg hout] at fg
    exact ⟨fg.1.trans fs.1.symm, fg.2.1.trans fs.2.1.symm, fg.2.2.trans fs.2.2.symm⟩
theorem protect_keeps (l : List AM.Ar) (page pages q : Int) (h : (protectN l page pages q).2 = 0) :
    AM.checkN (protectN l page pages q).1 = 0 ∧ (∀ p : Nat, 1 ≤ p → p ≤ 255 →
      ((AM.findN (protectN l page pages q).1 p).2 = (AM.findN l p).2 ∧ (AM.findN (protectN l page pages q).1 p).1.zero = (AM.findN l p).1.zero) ∧
      (page ≤ (p : Int) ∧ (p : Int) < page + pages → (AM.findN (protectN l page pages q).1 p).2 = true ∧ (AM.findN (protectN l page pages q).1 p).1.prot = q) ∧
      (¬ (page ≤ (p : Int) ∧ (p : Int) < page + pages) → (AM.findN (protectN l page pages q).1 p).1.prot = (AM.findN l p).1.prot)) := by
  obtain ⟨hc, hpp, hq, he, hr⟩ := turn_ok _ _ _ _ _ h
  have hpb := (AM.pagesB_iff page pages).1 hpp
  have hF := fine_protect l page (page + pages) q hc hpb.1 ((prot_iff q).1 hq)
  have hr' : (protectN l page pages q).1 = _ := hr
  rw [hr']
  refine ⟨AM.check_gather _ hF, fun p h1 h2 => ?_⟩
  have fg := AM.find_gather _ hF p (by omega)
  have fs := AM.find_spread l hc p
  simp only [AM.turned] at fg
  by_cases hin : page ≤ (p : Int) ∧ (p : Int) < page + pages
  · have he' := AM.err_zero _ _ _ _ he p (by omega) (by omega)
    have hm : (AM.spreadN l p).m = true := by
      unfold howProtect at he'
      cases hm : (AM.spreadN l p).m
      · simp [hm] at he'
      · rfl
    rw [if_pos hin] at fg
    unfold howProtect at fg
    simp only [hm, if_true] at fg
    exact ⟨⟨fg.1.trans (fs.1.trans hm).symm, fg.2.2.trans fs.2.2.symm⟩, fun _ => ⟨fg.1, fg.2.1⟩, fun hout => absurd hin hout⟩
  · rw [if_neg hin] at fg
    exact ⟨⟨fg.1.trans fs.1.symm, fg.2.2.trans fs.2.2.symm⟩, fun h => absurd h hin, fun _ => fg.2.1.trans fs.2.1.symm⟩

theorem fit_map (l : List AM.Ar) (page pages q : Int) : AllFit (mapN l page pages q).1 := by
  by_cases h : (mapN l page pages q).2 = 0
  · exact AM.fits_of_check _ (map_keeps l page pages q h).1
  · rw [show (mapN l page pages q).1 = [] from turn_err _ _ _ _ _ h]; exact fit_nil
theorem fit_unmap (l : List AM.Ar) (page pages : Int) : AllFit (unmapN l page pages).1 := by
  by_cases h : (unmapN l page pages).2 = 0
  · exact AM.fits_of_check _ (unmap_keeps l page pages h).1
  · rw [show (unmapN l page pages).1 = [] from turn_err _ _ _ _ _ h]; exact fit_nil
theorem fit_protect (l : List AM.Ar) (page pages q : Int) : AllFit (protectN l page pages q).1 := by
  by_cases h : (protectN l page pages q).2 = 0
  · exact AM.fits_of_check _ (protect_keeps l page pages q h).1
  · rw [show (protectN l page pages q).1 = [] from turn_err _ _ _ _ _ h]; exact fit_nil

/-- Unmap comes, where the areas and the pages are right; else none of the three comes -/
theorem unmap_comes (l : List AM.Ar) (page pages : Int) (hc : AM.checkN l = 0) (hp : AM.pagesB page pages = true) : (unmapN l page pages).2 = 0 := by
  unfold unmapN AM.turnN
  rw [if_pos hc, if_pos (by rw [hp]; rfl), if_pos (AM.errFrom_zero _ _ _ _ (fun k _ _ => rfl))]
theorem none_comes (l : List AM.Ar) (page pages q : Int) (how : AM.St → AM.St × Int) (h : ¬ (AM.checkN l = 0 ∧ AM.pagesB page pages = true)) : (AM.turnN l page pages q how).2 ≠ 0 := fun e => by
  obtain ⟨hc, hpp, _⟩ := turn_ok _ _ _ _ _ e
  exact h ⟨hc, hpp⟩
theorem not_both (l : List AM.Ar) (page pages q : Int) (h : (mapN l page pages q).2 = 0) : (protectN l page pages q).2 ≠ 0 := fun e => by
  obtain ⟨hc, hpp, hq, he, _⟩ := turn_ok _ _ _ _ _ h
  obtain ⟨_, _, _, he2, _⟩ := turn_ok _ _ _ _ _ e
  have hpb := (AM.pagesB_iff page pages).1 hpp
  have a := AM.err_zero _ _ _ _ he page.toNat (by omega) (by omega)
  have b := AM.err_zero _ _ _ _ he2 page.toNat (by omega) (by omega)
  unfold howMap at a
  unfold howProtect at b
  cases hm : (AM.spreadN l page.toNat).m
  · simp [hm] at b
  · simp [hm] at a
end Go.Proofs.Yteieplodndfbhaa.AW
/- The areas of the objects; plain Lean. -/
namespace Go.Proofs.Yteieplodndfbhaa.LM
open Go.RowKit
set_option linter.unusedVariables false
set_option maxRecDepth 100000

/-- the areas, one segment more -/
def mapSeg (o : Ob) (L : List AM.Ar) (s : M.Sg) : List AM.Ar := (AW.mapN L (o.base + s.page) s.pages (protN s)).1
def asg (o : Ob) (L : List AM.Ar) : Nat → List AM.Ar
  | 0 => L
  | k + 1 => mapSeg o (asg o L k) (M.sgAt o.i.segs k)
def aob (l : List Ob) : Nat → List AM.Ar
  | 0 => []
  | k + 1 => asg (obAt l k) (aob l k) (obAt l k).i.segs.length
def clr (a : AM.Ar) : AM.Ar := ⟨a.page, a.pages, a.prot, false⟩
def clrTo (L : List AM.Ar) : Nat → List AM.Ar
  | 0 => L
  | k + 1 => (clrTo L k).set k (clr (AM.at_ (clrTo L k) k))
/-- what areasOf answers -/
def areasN (l : List Ob) : List AM.Ar := (aob l l.length).map clr

theorem fit_asg (o : Ob) (L : List AM.Ar) (h : AW.AllFit L) : ∀ k, AW.AllFit (asg o L k)
  | 0 => h
  | k + 1 => AW.fit_map _ _ _ _
theorem fit_aob (l : List Ob) : ∀ k, AW.AllFit (aob l k)
  | 0 => AW.fit_nil
  | k + 1 => fit_asg _ _ (fit_aob l k) _
theorem clrTo_length (L : List AM.Ar) : ∀ k, (clrTo L k).length = L.length
  | 0 => rfl
  | k + 1 => by simp only [clrTo, List.length_set, clrTo_length L k]
theorem clrTo_get (L : List AM.Ar) : ∀ k, k ≤ L.length → ∀ j, (clrTo L k)[j]? = if j < k then L[j]?.map clr else L[j]?
  | 0, _, j => by simp [clrTo]
  | k + 1, hk, j => by
    have ih := clrTo_get L k (by omega)
    have hl := clrTo_length L k
    have e : AM.at_ (clrTo L k) k = AM.at_ L k := by
      unfold AM.at_
      rw [List.getD_eq_getElem?_getD, List.getD_eq_getElem?_getD, ih k, if_neg (Nat.lt_irrefl _)]
    simp only [clrTo]
    rw [e, List.getElem?_set]
    by_cases hjk : k = j
    · subst hjk
      rw [if_pos rfl, if_pos (by omega), if_pos (by omega)]
      unfold AM.at_
      rw [List.getD_eq_getElem?_getD, List.getElem?_eq_getElem (by omega)]
      rfl
    · rw [if_neg hjk, ih j]
      by_cases h1 : j < k
      · rw [if_pos h1, if_pos (by omega)]
      · rw [if_neg h1, if_neg (by omega)]
theorem clrTo_all (L : List AM.Ar) : clrTo L L.length = L.map clr := by
  apply List.ext_getElem?
  intro j
  rw [clrTo_get L _ (Nat.le_refl _) j, List.getElem?_map]
  by_cases h : j < L.length
  · rw [if_pos h]
  · rw [if_neg h, List.getElem?_eq_none (by omega)]
    rfl
theorem areaCells_set (b : Bool) : ∀ (L : List AM.Ar) (k : Nat), k < L.length → (AM.areaCells L).set (k * 4 + 3) (.bool b) = AM.areaCells (L.set k ⟨(AM.at_ L k).page, (AM.at_ L k).pages, (AM.at_ L k).prot, b⟩)
  | [], k, h => by simp at h
  | a :: r, 0, h => rfl
  | a :: r, k + 1, h => by
    have ih := areaCells_set b r k (by simpa using h)
    show (AM.four a ++ AM.areaCells r).set _ _ = AM.four a ++ AM.areaCells (r.set k _)
    rw [List.set_append_right _ _ (by simp [AM.four]; omega)]
    congr 1
    have e : (k + 1) * 4 + 3 - (AM.four a).length = k * 4 + 3 := by simp [AM.four]; omega
    rw [e, ih]
    rfl
end Go.Proofs.Yteieplodndfbhaa.LM
/- What Link is handed, and what it answers; plain Lean. -/
namespace Go.Proofs.Yteieplodndfbhaa.LM
open Go.RowKit
set_option linter.unusedVariables false
set_option maxRecDepth 100000

def cellI (x : Li) : List Value := (M.cellsI x.a x.i).toList
/-- the error that Link tells -/
def linkErr (all : List Li) : Int :=
  if 7 < all.length then 2
  else if byErr all = 0 then
    match gat all all.length 0 [0] with
    | none => 6
    | some ix => if 256 < endFrom all 1 ix then 3 else
      match sheetsN (obsFrom all 1 ix) with
      | none => 7
      | some _ => 0
  else byErr all
theorem byErr_zero {l : List Li} (h : byErr l = 0) : (∀ k, k < l.length → M.chkN (liAt l k).i = 0) ∧ M.onceB (namesL l) = true := by
  unfold byErr at h
  by_cases e : errTo l l.length = 0
  · rw [if_pos e] at h
    refine ⟨errTo_none l l.length e, ?_⟩
    by_cases g : M.onceB (namesL l) = true
    · exact g
    · rw [if_neg g] at h
      cases h
  · rw [if_neg e] at h
    exact (e h).elim
theorem obs_base {all : List Li} (hc : ∀ j, j < all.length → M.chkN (liAt all j).i = 0) (h7 : all.length ≤ 7) {ix : List Nat} (ho : OkIx all ix) (k : Nat) (hk : k < (obsFrom all 1 ix).length) : 1 ≤ (obAt (obsFrom all 1 ix) k).base ∧ (obAt (obsFrom all 1 ix) k).base ≤ 2000 := by
  rw [obsFrom_length] at hk
  rw [(obsFrom_at all ix 1 k hk).2.2]
  have h := endFrom_bounds all hc (ix.take k) 1 (fun j hj => ho.lt j (List.mem_of_mem_take hj))
  have h2 := ho.le
  rw [List.length_take] at h
  omega
end Go.Proofs.Yteieplodndfbhaa.LM
/- Plain laws: boards, rising areas, and that right areas are told by what pages have; no Go in sight. -/
namespace Go.Proofs.Yteieplodndfbhaa.AM
open Go.RowKit
set_option linter.unusedVariables false
set_option maxRecDepth 100000

def mark (p : Int) (z : Bool) : Int := 1 + 2 * p + (if z then 8 else 0)
def enc (s : St) : Int := if s.m then mark s.p s.z else 0
def rowB (G : Nat → Int) : Nat → List Value
  | 0 => []
  | m + 1 => rowB G m ++ [.int .i64 (G m)]
def cellsB (G : Nat → Int) : Array Value := (rowB G 256).toArray
def updI (G : Nat → Int) (n : Nat) (x : Int) : Nat → Int := fun k => if k = n then x else G k

theorem rowB_length (G : Nat → Int) : ∀ m, (rowB G m).length = m
  | 0 => rfl
  | m + 1 => by simp [rowB, rowB_length G m]
theorem cellsB_size (G : Nat → Int) : (cellsB G).size = 256 := by simp [cellsB, rowB_length]
theorem rowB_get (G : Nat → Int) (n : Nat) : ∀ m, n < m → (rowB G m)[n]? = some (.int .i64 (G n))
  | 0, h => by omega
  | m + 1, h => by
    simp only [rowB]
    by_cases e : n = m
    · subst e
      rw [List.getElem?_append_right (by rw [rowB_length]; omega), rowB_length]
      simp
    · rw [List.getElem?_append_left (by rw [rowB_length]; omega)]
      exact rowB_get G n m (by omega)
theorem cellsB_get (G : Nat → Int) (n : Nat) (hn : n < 256) : (cellsB G)[n]? = some (.int .i64 (G n)) := by
  unfold cellsB
  rw [List.getElem?_toArray]
  exact rowB_get G n 256 hn
theorem rowB_congr (F G : Nat → Int) : ∀ m, (∀ k, k < m → F k = G k) → rowB F m = rowB G m
  | 0, _ => rfl
  | m + 1, h => by simp only [rowB]; rw [rowB_congr F G m (fun k hk => h k (by omega)), h m (by omega)]
theorem rowB_set (G : Nat → Int) (n : Nat) (x : Int) : ∀ m, n < m → (rowB G m).set n (.int .i64 x) = rowB (updI G n x) m
  | 0, h => by omega
  | m + 1, h => by
    simp only [rowB]
    by_cases e : n = m
    · subst e
      rw [List.set_append_right _ _ (by rw [rowB_length]; omega), rowB_length, rowB_congr (updI G n x) G n (fun k hk => by simp [updI]; omega)]
      simp [updI]
    · rw [List.set_append_left _ _ (by rw [rowB_length]; omega), rowB_set G n x m (by omega)]
      congr 2
      simp [updI]; intro h'; exact absurd h'.symm e
theorem cellsB_set (G : Nat → Int) (n : Nat) (x : Int) (hn : n < 256) : (cellsB G).setIfInBounds n (.int .i64 x) = cellsB (updI G n x) := by
  unfold cellsB
  rw [← rowB_set G n x 256 hn]
  simp only [List.setIfInBounds_toArray]
theorem rowB_one (G : Nat → Int) : ∀ m, ∀ v ∈ rowB G m, v.oneCell' = true
  | 0, v, h => by simp [rowB] at h
  | m + 1, v, h => by
    simp only [rowB, List.mem_append, List.mem_singleton] at h
    rcases h with h | rfl
    · exact rowB_one G m v h
    · rfl
theorem cellsB_one (G : Nat → Int) : (cellsB G).all (·.oneCell') = true := by
  rw [Array.all_eq_true_iff_forall_mem]
  intro v hv
  exact rowB_one G 256 v (by simpa [cellsB] using hv)
theorem updI_enc (F : Nat → St) (n : Nat) (s : St) : updI (fun k => enc (F k)) n (enc s) = fun k => enc (upd F n s k) := by
  funext k; simp only [updI, upd]; split <;> rfl

theorem enc_zero (s : St) (h : 0 ≤ s.p) : (enc s = 0) ↔ s.m = false := by
  unfold enc mark
  cases s.m
  · simp
  · simp only [if_true]
    cases s.z <;> simp <;> omega
theorem enc_inj (s t : St) (hs : 0 ≤ s.p ∧ s.p ≤ 3) (ht : 0 ≤ t.p ∧ t.p ≤ 3) (hm : s.m = true) : (enc t = enc s) ↔ stEq s t = true := by
  unfold enc mark stEq
  rw [hm]
  cases t.m
  · simp
    cases s.z <;> simp <;> omega
  · cases s.z <;> cases t.z <;> simp <;> omega
theorem enc_prot (s : St) (hs : 0 ≤ s.p ∧ s.p ≤ 3) (hm : s.m = true) : (enc s - 1) % 8 / 2 = s.p ∧ (decide (8 ≤ enc s - 1) = s.z) ∧ 1 ≤ enc s ∧ enc s ≤ 15 := by
  unfold enc mark
  rw [hm]
  simp only [if_true]
  cases s.z
  · simp; omega
  · simp; omega

/-- each area by itself may be -/
def eachTo (l : List Ar) : Nat → Bool
  | 0 => true
  | k + 1 => eachTo l k && (pagesB (at_ l k).page (at_ l k).pages && protB (at_ l k).prot)
def riseAt (l : List Ar) (i : Nat) : Bool := i == 0 || decide ((at_ l (i - 1)).last0 ≤ (at_ l i).page)
def riseTo (l : List Ar) : Nat → Bool
  | 0 => true
  | k + 1 => riseTo l k && riseAt l k
theorem riseTo_false (l : List Ar) : ∀ (k n : Nat), k ≤ n → riseTo l k = false → riseTo l n = false
  | k, 0, h, hk => by obtain rfl : k = 0 := by omega
                      exact hk
  | k, n + 1, h, hk => by
    by_cases e : k = n + 1
    · subst e; exact hk
    · simp [riseTo, riseTo_false l k n (by omega) hk]
theorem follow_rise (a b : Ar) (h : followB a b = true) : a.last0 ≤ b.page := by
  unfold followB at h
  split at h
  · omega
  · simp at h; omega
theorem good_each (l : List Ar) : ∀ k, goodTo l k = true → eachTo l k = true ∧ riseTo l k = true
  | 0, _ => ⟨rfl, rfl⟩
  | k + 1, h => by
    simp only [goodTo, Bool.and_eq_true] at h
    have ih := good_each l k h.1
    have hk := h.2
    simp only [okAt, Bool.and_eq_true, Bool.or_eq_true, beq_iff_eq] at hk
    refine ⟨by simp [eachTo, ih.1, hk.1.1, hk.1.2], ?_⟩
    simp only [riseTo, ih.2, riseAt, Bool.true_and, Bool.or_eq_true, beq_iff_eq, decide_eq_true_eq]
    rcases hk.2 with e | e
    · exact .inl e
    · exact .inr (follow_rise _ _ e)
theorem each_at (l : List Ar) : ∀ k, eachTo l k = true → ∀ i, i < k → pagesB (at_ l i).page (at_ l i).pages = true ∧ protB (at_ l i).prot = true
  | 0, _, i, hi => by omega
  | k + 1, h, i, hi => by
    simp only [eachTo, Bool.and_eq_true] at h
    by_cases e : i = k
    · subst e; exact h.2
    · exact each_at l k h.1 i (by omega)
theorem each_fine (l : List Ar) (n : Nat) (h : eachTo l n = true) : ∀ k, k ≤ n → (spreadTo l k 0).m = false ∧ (∀ m, (spreadTo l k m).m = false → spreadTo l k m = off) ∧ (∀ m, 0 ≤ (spreadTo l k m).p ∧ (spreadTo l k m).p ≤ 3)
  | 0, _ => ⟨rfl, fun n _ => rfl, fun n => by simp [spreadTo, off]⟩
  | k + 1, hk => by
    have ih := each_fine l n h k (by omega)
    have ho := each_at l n h k (by omega)
    have h1 := (pagesB_iff _ _).1 ho.1
    have h2 : 0 ≤ (at_ l k).prot ∧ (at_ l k).prot ≤ 3 := of_decide_eq_true ho.2
    refine ⟨?_, fun n => ?_, fun n => ?_⟩
    · simp only [spreadTo, layTo]; rw [if_neg (by omega)]; exact ih.1
    · simp only [spreadTo, layTo]
      split
      · intro h; simp at h
      · exact ih.2.1 n
    · simp only [spreadTo, layTo]
      split
      · exact h2
      · exact ih.2.2 n
theorem fine_each (l : List Ar) (h : eachTo l l.length = true) : Fine (spreadN l) := by
  have h := each_fine l l.length h l.length (Nat.le_refl _)
  exact ⟨h.1, h.2.1, h.2.2⟩

theorem look_m (G : List Ar) (n : Nat) : (look G n).m = (findFrom G n).2 := by
  unfold look
  by_cases c : (findFrom G n).2 = true
  · simp [c]
  · simp [off, show (findFrom G n).2 = false by simpa using c]
theorem okNext_le (G : List Ar) (a : Ar) (h : okNext G a = true) (hne : 0 < G.length) : (lastOf G).last0 ≤ a.page := by
  simp only [okNext, Bool.and_eq_true, Bool.or_eq_true, beq_iff_eq] at h
  rcases h.2 with e | e
  · omega
  · exact follow_rise _ _ e
theorem okNext_pages (G : List Ar) (a : Ar) (h : okNext G a = true) : 1 ≤ a.page ∧ 1 ≤ a.pages ∧ a.pages ≤ 256 - a.page := by
  simp only [okNext, Bool.and_eq_true] at h
  exact (pagesB_iff _ _).1 h.1.1
theorem miss_from (G : List Ar) (a : Ar) (hg : good G = true) (h : okNext G a = true) (n : Nat) (hn : a.page ≤ (n : Int)) : (findFrom G n).2 = false := by
  by_cases c : (findFrom G n).2 = true
  · have hb := good_bound _ G rfl hg n c
    have hne : 0 < G.length := by
      rcases Nat.eq_zero_or_pos G.length with e | e
      · have e' : G = [] := List.eq_nil_of_length_eq_zero e
        subst e'; simp [findFrom] at c
      · exact e
    have := okNext_le G a h hne
    omega
  · simpa using c
/-- a page of the last area -/
theorem look_last (G : List Ar) (a : Ar) (hg : good G = true) (h : okNext G a = true) (n : Nat) (h1 : a.page ≤ (n : Int)) (h2 : (n : Int) < a.page + a.pages) : look (G ++ [a]) n = ⟨true, a.prot, a.zero⟩ := by
  rw [look_snoc, if_neg (by rw [miss_from G a hg h n h1]; simp), if_pos ((hit_iff a n).2 ⟨h1, h2⟩)]
theorem look_ahead (G : List Ar) (a : Ar) (n : Nat) (h1 : ¬ (a.page ≤ (n : Int) ∧ (n : Int) < a.page + a.pages)) : look (G ++ [a]) n = look G n := by
  rw [look_snoc]
  by_cases c : (findFrom G n).2 = true
  · rw [if_pos c]
  · rw [if_neg c, if_neg (fun e => h1 ((hit_iff a n).1 e))]
    unfold look
    simp [show (findFrom G n).2 = false by simpa using c]

theorem good_unique : ∀ (m : Nat) (G H : List Ar), G.length = m → good G = true → good H = true → (∀ n : Nat, look G n = look H n) → G = H
  | 0, G, H, hm, hG, hH, he => by
    have e : G = [] := List.eq_nil_of_length_eq_zero hm
    subst e
    rcases List.eq_nil_or_concat H with rfl | ⟨H', b, rfl⟩
    · rfl
    · rw [List.concat_eq_append] at *
      rw [good_snoc, Bool.and_eq_true] at hH
      have hb := okNext_pages _ _ hH.2
      have h1 := look_last H' b hH.1 hH.2 b.page.toNat (by omega) (by omega)
      rw [← he] at h1
      have := congrArg St.m h1
      simp [look, findFrom, off] at this
  | m + 1, G, H, hm, hG, hH, he => by
    rcases List.eq_nil_or_concat G with rfl | ⟨G', a, rfl⟩
    · simp at hm
    · rw [List.concat_eq_append] at *
      have hG0 := hG
      rw [good_snoc, Bool.and_eq_true] at hG
      have ha := okNext_pages _ _ hG.2
      rcases List.eq_nil_or_concat H with rfl | ⟨H', b, rfl⟩
      · have h1 := look_last G' a hG.1 hG.2 a.page.toNat (by omega) (by omega)
        rw [he] at h1
        have := congrArg St.m h1
        simp [look, findFrom, off] at this
      · rw [List.concat_eq_append] at *
        have hH0 := hH
        rw [good_snoc, Bool.and_eq_true] at hH
        have hb := okNext_pages _ _ hH.2
        -- both end at one page
        have up : ∀ (X Y : List Ar) (x y : Ar), good X = true → okNext X x = true → good (Y ++ [y]) = true → (∀ n : Nat, look (X ++ [x]) n = look (Y ++ [y]) n) → 1 ≤ x.page → 1 ≤ x.pages → x.page + x.pages ≤ y.page + y.pages := by
          intro X Y x y hX hx hY hxy h1 h2
          have e1 := look_last X x hX hx (x.page + x.pages - 1).toNat (by omega) (by omega)
          rw [hxy] at e1
          have e2 : (findFrom (Y ++ [y]) ((x.page + x.pages - 1).toNat : Nat)).2 = true := by rw [← look_m, e1]
          have e3 := (good_bound _ _ rfl hY _ e2).2
          rw [lastOf_snoc] at e3
          unfold Ar.last0 at e3
          omega
        have hend : a.page + a.pages = b.page + b.pages := Int.le_antisymm (up G' H' a b hG.1 hG.2 hH0 he ha.1 ha.2.1) (up H' G' b a hH.1 hH.2 hG0 (fun n => (he n).symm) hb.1 hb.2.1)
        have hl1 := look_last G' a hG.1 hG.2 (a.page + a.pages - 1).toNat (by omega) (by omega)
        have hl2 := look_last H' b hH.1 hH.2 (a.page + a.pages - 1).toNat (by omega) (by omega)
        rw [he, hl2] at hl1
        have hpr : b.prot = a.prot := congrArg St.p hl1
        have hze : b.zero = a.zero := congrArg St.z hl1
        -- both begin at one page
        have beg : ∀ (X Y : List Ar) (x y : Ar), good X = true → okNext X x = true → good Y = true → okNext Y y = true → (∀ n : Nat, look (X ++ [x]) n = look (Y ++ [y]) n) → x.page + x.pages = y.page + y.pages → y.prot = x.prot → y.zero = x.zero → 1 ≤ x.page → 1 ≤ y.pages → y.page ≤ x.page := by
          intro X Y x y hX hx hY hy hxy hen hp hz h1 h2
          by_cases c : y.page ≤ x.page
          · exact c
          · exfalso
            have e1 := look_last X x hX hx (y.page - 1).toNat (by omega) (by omega)
            rw [hxy, look_ahead Y y _ (by omega)] at e1
            have e2 : (findFrom Y ((y.page - 1).toNat : Nat)).2 = true := by rw [← look_m, e1]
            have e3 := (good_bound _ _ rfl hY _ e2).2
            have hne : 0 < Y.length := by
              rcases Nat.eq_zero_or_pos Y.length with e | e
              · have e' : Y = [] := List.eq_nil_of_length_eq_zero e
                subst e'; simp [findFrom] at e2
              · exact e
            have e4 := okNext_le Y y hy hne
            have e5 : (lastOf Y).last0 = y.page := by omega
            have hfo := hy
            simp only [okNext, Bool.and_eq_true, Bool.or_eq_true, beq_iff_eq] at hfo
            have hfo2 : followB (lastOf Y) y = true := by
              rcases hfo.2 with e | e
              · omega
              · exact e
            unfold followB at hfo2
            rw [if_pos e5.symm] at hfo2
            rcases List.eq_nil_or_concat Y with rfl | ⟨Y', z, rfl⟩
            · simp at hne
            · rw [List.concat_eq_append] at *
              rw [lastOf_snoc] at e5 hfo2
              unfold Ar.last0 at e5
              have hYs := hY
              rw [good_snoc, Bool.and_eq_true] at hYs
              have hzp := okNext_pages _ _ hYs.2
              have e6 := look_last Y' z hYs.1 hYs.2 (y.page - 1).toNat (by omega) (by omega)
              rw [e6] at e1
              have q1 : z.prot = x.prot := congrArg St.p e1
              have q2 : z.zero = x.zero := congrArg St.z e1
              rw [hp, hz, q1, q2] at hfo2
              simp at hfo2
        have hbeg : a.page = b.page := Int.le_antisymm (beg H' G' b a hH.1 hH.2 hG.1 hG.2 (fun n => (he n).symm) hend.symm hpr.symm hze.symm hb.1 ha.2.1) (beg G' H' a b hG.1 hG.2 hH.1 hH.2 he hend hpr hze ha.1 hb.2.1)
        have hab : a = b := by
          cases a; cases b
          simp only at hbeg hend hpr hze
          subst hbeg; subst hpr; subst hze
          congr 1
          omega
        subst hab
        have ih := good_unique m G' H' (by simpa using hm) hG.1 hH.1 (fun n => by
          by_cases c : a.page ≤ (n : Int)
          · have x1 := miss_from G' a hG.1 hG.2 n c
            have x2 := miss_from H' a hH.1 hH.2 n c
            unfold look
            simp [x1, x2]
          · have x1 := look_ahead G' a n (by omega)
            have x2 := look_ahead H' a n (by omega)
            rw [← x1, ← x2]; exact he n)
        rw [ih]
/-- right areas are what comes of gathering what they spread -/
theorem gather_spread (l : List Ar) (hc : checkN l = 0) : gatherN (spreadN l) = l := by
  have hF := fine_spread l hc
  have hg := good_of_check l hc
  refine good_unique _ _ _ rfl (gather_good _ hF) hg (fun n => ?_)
  rw [spread_look l _ l rfl hg n]
  by_cases hn : n < 256
  · exact gather_look _ hF n hn
  · have := (gather_inv _ hF 256 (Nat.le_refl _)).look n
    rw [if_neg hn] at this
    rw [show look (gatherN (spreadN l)) n = off from this]
    have e : look l n = off := by
      unfold look
      by_cases c : (findFrom l n).2 = true
      · exfalso
        have hb := (good_bound _ l rfl hg n c).2
        have hne : 0 < l.length := by
          rcases Nat.eq_zero_or_pos l.length with e | e
          · have e' : l = [] := List.eq_nil_of_length_eq_zero e
            subst e'; simp [findFrom] at c
          · exact e
        have ho := okAt_pages l (l.length - 1) (good_pages l hc _ (by omega))
        unfold lastOf Ar.last0 at hb
        omega
      · simp [show (findFrom l n).2 = false by simpa using c]
    rw [← spread_look l _ l rfl hg n, e]
end Go.Proofs.Yteieplodndfbhaa.AM
/- The board of what is linked; plain Lean. -/
namespace Go.Proofs.Yteieplodndfbhaa.LM
open Go.RowKit
set_option linter.unusedVariables false
set_option maxRecDepth 100000

/-- the area of a segment -/
def arO (o : Ob) (s : M.Sg) : AM.Ar := ⟨o.base + s.page, s.pages, protN s, false⟩
/-- the board, one segment more -/
def bsg (o : Ob) (F : Nat → AM.St) : Nat → Nat → AM.St
  | 0 => F
  | k + 1 => AM.layTo (bsg o F k) (arO o (M.sgAt o.i.segs k)) (o.base + (M.sgAt o.i.segs k).page + (M.sgAt o.i.segs k).pages)
def bob (l : List Ob) : Nat → Nat → AM.St
  | 0 => fun _ => AM.off
  | k + 1 => bsg (obAt l k) (bob l k) (obAt l k).i.segs.length
theorem protN_bd (s : M.Sg) : 0 ≤ protN s ∧ protN s ≤ 3 := by
  unfold protN
  split <;> split <;> omega
theorem enc_mark (s : M.Sg) : AM.enc ⟨true, protN s, false⟩ = AM.mark (protN s) false := rfl
/-- the segments of an image lie one behind the other -/
theorem there_of {i : M.Im} (hc : M.chkN i = 0) : M.apartB i.segs = true := by
  unfold M.chkN at hc
  split at hc
  · simp at hc
  · split at hc
    · simp at hc
    · split at hc
      · simp at hc
      · split at hc
        · simp at hc
        · rename_i h
          have h' : M.thereB i = true := by simpa using h
          unfold M.thereB at h'
          simp only [Bool.and_eq_true] at h'
          exact h'.1
theorem over_at (l : List M.Sg) : ∀ n, M.overTo l n = true → ∀ k, k + 1 < n → (M.sgAt l k).page + (M.sgAt l k).pages ≤ (M.sgAt l (k + 1)).page
  | 0, _, k, hk => by omega
  | n + 1, h, k, hk => by
    simp only [M.overTo, Bool.and_eq_true] at h
    by_cases e : k + 1 = n
    · subst e
      have := h.2
      unfold M.overAt at this
      simpa using this
    · exact over_at l n h.1 k (by omega)
theorem segs_rise {i : M.Im} (hc : M.chkN i = 0) : ∀ (m k : Nat), k < m → m < i.segs.length → (M.sgAt i.segs k).page + (M.sgAt i.segs k).pages ≤ (M.sgAt i.segs m).page
  | 0, k, h, _ => by omega
  | m + 1, k, h, hm => by
    have ho := over_at i.segs i.segs.length (there_of hc) m hm
    by_cases e : k = m
    · subst e; exact ho
    · have ih := segs_rise hc m k (by omega) (by omega)
      have hb := seg_bounds hc m (by omega)
      omega
theorem segs_last {i : M.Im} (hc : M.chkN i = 0) (k : Nat) (hk : k < i.segs.length) : (M.sgAt i.segs k).page + (M.sgAt i.segs k).pages ≤ (lastSeg i).page + (lastSeg i).pages := by
  unfold lastSeg
  by_cases e : k = i.segs.length - 1
  · subst e; exact Int.le_refl _
  · have h := segs_rise hc (i.segs.length - 1) k (by omega) (by omega)
    have hb := seg_bounds hc (i.segs.length - 1) (by omega)
    omega
end Go.Proofs.Yteieplodndfbhaa.LM
/- The linker: is a sheet right? -/
namespace Go.Proofs.Yteieplodndfbhaa.LW
open Go.RowKit
open Go.Proofs.Yteieplodndfbhaa.W (hideC)
set_option linter.unusedVariables false
set_option maxRecDepth 100000

theorem below_drew (w : World) : Below w.heap.size w w.drew := ⟨rfl, rfl, rfl, Nat.le_refl _, fun _ _ => rfl⟩
theorem ret_bool {a b : Bool} (h : a = b) : Ending.returned (.bool a) = .returned (.bool b) := by rw [h]

set_option maxHeartbeats 2000000 in
theorem rightSheet_any (s : LM.Sh) (w : World) (h : LM.HasF w s.ao s.fixes) (hf : LM.FitH s) :
    Calls Try.prog 34 #[.agg (LM.cellsH s)] w fun e w' => e = .returned (.bool (LM.sheetB s)) ∧ Below w.heap.size w w' := by
  obtain ⟨f1, f2, f3, f4⟩ := hf
  obtain ⟨pg, dt, fs, ao, cap⟩ := s
  simp only at f1 f2 f3 f4
  unfold M.I64 at f1
  unfold M.Short at f2 f3
  simp only [LM.cellsH]
  have hdl : dt.size ≤ maxLen := by unfold maxLen; omega
  have F4 := hideC f4
  have HH := hideC h
  clear f4 h
  have HB := hideC ((Below.refl w.heap.size w).alloc (Nat.le_refl _) (.cells #[.int .i64 pg, .string dt, .slice ao fs.length cap] 43))
  by_cases h1 : pg < 1
  · have e : LM.sheetB ⟨pg, dt, fs, ao, cap⟩ = false := by
      unfold LM.sheetB LM.headB
      rw [decide_eq_false (by simp only; omega), Bool.false_and]
    rw [e]
    go_enter Try.func34, Try.ntmps34
    go_wp2
    go_ret
    exact ⟨rfl, HB.out⟩
  by_cases h2 : 255 < pg
  · have e : LM.sheetB ⟨pg, dt, fs, ao, cap⟩ = false := by
      unfold LM.sheetB LM.headB
      rw [decide_eq_false (by simp only; omega), Bool.false_and]
    rw [e]
    go_enter Try.func34, Try.ntmps34
    go_wp2
    go_ret
    exact ⟨rfl, HB.out⟩
  by_cases h3 : dt.size = 16
  · have h3' : (dt.size : Int) = 16 := by omega
    have e : LM.headB ⟨pg, dt, fs, ao, cap⟩ = true := by
      unfold LM.headB
      exact decide_eq_true ⟨by simp only; omega, by simp only; omega, h3⟩
    have E : Hid (LM.sheetB ⟨pg, dt, fs, ao, cap⟩ = LM.fixesTo fs fs.length) := by
      show _ = _
      unfold LM.sheetB
      rw [e, Bool.true_and]
    clear e h3
    go_enter Try.func34, Try.ntmps34
    go_wp2
    go_loopw [23, 3] (fun i en wr => ∃ k : Nat, k ≤ fs.length ∧ i = .int .i64 k ∧ en = .int .i64 (LM.endTo fs k) ∧ LM.fixesTo fs k = true ∧ Below w.heap.size w wr) (fun i _ _ => fs.length - (intOf i).toNat)
    case atStart => exact ⟨0, by omega, rfl, rfl, rfl, HB.out⟩
    case round =>
      obtain ⟨k, hk, rfl, rfl, hg, hb⟩ := hrel
      have HG := hideC hg
      have HBr := hideC hb
      clear hg
      by_cases hlt : k < fs.length
      · obtain ⟨b, off, hao, hbl, hlie⟩ := (HH.out.below hb) (by omega)
        subst hao
        obtain ⟨c0, c1⟩ := hlie k hlt
        obtain ⟨g1, g2⟩ := F4.out k hlt
        have hed := LM.endTo_ge fs k HG.out
        obtain ⟨f, hfe⟩ : ∃ f, f = LM.fxAt fs k := ⟨_, rfl⟩
        rw [← hfe] at c0 c1 g1 g2
        unfold M.I64 at g1
        unfold M.Short at g2
        have hfl : f.bytes.size ≤ maxLen := by unfold maxLen; omega
        have HFE := hideC hfe
        clear hfe hlie hb
        obtain ⟨en, hen⟩ : ∃ en, en = LM.endTo fs k := ⟨_, rfl⟩
        rw [← hen] at hed
        have HEN := hideC hen
        rw [← hen]
        clear hen
        have HBA := hideC (HBr.out.alloc HBr.out.size (.cells #[.int .i64 f.off, .string f.bytes] 89))
        by_cases q1 : f.off < en
        · have HX : Hid (LM.fixesTo fs fs.length = false) := LM.fixes_bad fs k hlt (by rw [← HFE.out, ← HEN.out]; exact LM.fixB_no (by omega))
          go_wp2
          go_ret
          exact ⟨ret_bool (by rw [E.out, HX.out]), HBA.out⟩
        by_cases q2 : 16 < f.off
        · have HX : Hid (LM.fixesTo fs fs.length = false) := LM.fixes_bad fs k hlt (by rw [← HFE.out, ← HEN.out]; exact LM.fixB_no (by omega))
          go_wp2
          go_ret
          exact ⟨ret_bool (by rw [E.out, HX.out]), HBA.out⟩
        by_cases q3 : (f.bytes.size : Int) < 1
        · have HX : Hid (LM.fixesTo fs fs.length = false) := LM.fixes_bad fs k hlt (by rw [← HFE.out, ← HEN.out]; exact LM.fixB_no (by omega))
          go_wp2
          go_ret
          exact ⟨ret_bool (by rw [E.out, HX.out]), HBA.out⟩
        by_cases q4 : 16 - f.off < (f.bytes.size : Int)
        · have HX : Hid (LM.fixesTo fs fs.length = false) := LM.fixes_bad fs k hlt (by rw [← HFE.out, ← HEN.out]; exact LM.fixB_no (by omega))
          go_wp2
          go_ret
          exact ⟨ret_bool (by rw [E.out, HX.out]), HBA.out⟩
        · have HX : Hid (LM.fixesTo fs (k + 1) = true) := by
            show _ = _
            simp only [LM.fixesTo, Bool.and_eq_true]
            exact ⟨HG.out, by rw [← HFE.out, ← HEN.out]; exact (LM.fixB_iff _ _).2 (by omega)⟩
          have HY : Hid (LM.endTo fs (k + 1) = f.off + (f.bytes.size : Int)) := by show _ = _; simp only [LM.endTo]; rw [← HFE.out]
          go_wp2
          go_roundw
          case rel => exact ⟨k + 1, by omega, by go_num, by rw [HY.out], HX.out, HBA.out⟩
          case measure => simp [intOf]; omega
      · obtain rfl : k = fs.length := by omega
        go_wp2
        go_ret
        exact ⟨ret_bool (by rw [E.out, HG.out]), HBr.out⟩
  · have e : LM.sheetB ⟨pg, dt, fs, ao, cap⟩ = false := by
      unfold LM.sheetB LM.headB
      rw [decide_eq_false (fun h => h3 h.2.2), Bool.false_and]
    have h3' : ((dt.size : Int) == 16) = false := by simp; omega
    rw [e]
    go_enter Try.func34, Try.ntmps34
    go_wp2
    go_ret
    exact ⟨rfl, HB.out⟩
end Go.Proofs.Yteieplodndfbhaa.LW
namespace Go.Proofs.Yteieplodndfbhaa.CW
open Go.RowKit
set_option linter.unusedVariables false
set_option maxRecDepth 100000

theorem ret_int {k : IntKind} {a b : Int} (h : a = b) : Value.int k a = .int k b := by rw [h]

theorem rightSize_yes (n : Int) (w : World) (h1 : 1 ≤ n) (h2 : n ≤ 8) :
    Calls Try.prog 89 #[.int .i64 n] w fun e w' => e = .returned (.bool true) ∧ w = w' := by
  go_enter Try.func89, Try.ntmps89
  go_wp2
  go_ret
  exact ⟨rfl, rfl⟩
theorem rightSize_no (n : Int) (w : World) (h1 : n < 1 ∨ 8 < n) :
    Calls Try.prog 89 #[.int .i64 n] w fun e w' => e = .returned (.bool false) ∧ w = w' := by
  rcases h1 with h | h
  · go_enter Try.func89, Try.ntmps89
    go_wp2
    go_ret
    exact ⟨rfl, rfl⟩
  · have h' : 1 ≤ n := by omega
    have h'' : decide (n ≤ 8) = false := by simp; omega
    go_enter Try.func89, Try.ntmps89
    go_wp2
    go_ret
    exact ⟨rfl, rfl⟩

end Go.Proofs.Yteieplodndfbhaa.CW
namespace Go.Proofs.Yteieplodndfbhaa.CW
open Go.RowKit
set_option linter.unusedVariables false
set_option maxRecDepth 100000

set_option maxHeartbeats 400000 in
theorem bytes_any (n : Int) (size : Nat) (w : World) (h2 : size ≤ 8) :
    Calls Try.prog 48 #[.int .i64 n, .int .i64 size] w fun e w' => e = .returned (.string ⟨(Lib.leBytes size (CM.low n)).toArray⟩) ∧ Below w.heap.size w w' := by
  go_enter Try.func48, Try.ntmps48
  go_wp2
  go_loopw [0, 5, 6] (fun t s i wr => ∃ k : Nat, k ≤ size ∧ i = .int .i64 k ∧ t = .int .i64 (CM.shr n k) ∧ s = .string ⟨(Lib.leBytes k (CM.low n)).toArray⟩ ∧ Below w.heap.size w wr) (fun _ _ i _ => size - (intOf i).toNat)
  case atStart => exact ⟨0, by omega, rfl, by rw [CM.shr_zero], rfl, Below.refl _ _⟩
  case round =>
    obtain ⟨k, hk, rfl, rfl, rfl, hb⟩ := hrel
    by_cases hlt : k < size
    · have hcv : (convert 80 9 (.slice (some ⟨wr.heap.size, 0, none⟩) 1 1)).run Try.prog (wr.alloc (.cells #[.int .u8 (CM.shr n k % 256)] 5)) = .ok (.string ⟨#[(CM.low n / 256 ^ k % 256).toUInt8]⟩) (wr.alloc (.cells #[.int .u8 (CM.shr n k % 256)] 5)) := by
        rw [← CM.strOfNums_byte n k (by omega)]
        refine run_convert_bytes_arg _ 80 5 Try.underlying80 Try.underlying5 _ 0 1 1 [CM.shr n k % 256] rfl ?_ 9 Try.underlying9
        intro i hi
        obtain rfl : i = 0 := by omega
        simp
      have hl : (Lib.leBytes k (CM.low n)).length = k := Lib.leBytes_length _ _
      have HN : Hid (Lib.leBytes (k + 1) (CM.low n) = Lib.leBytes k (CM.low n) ++ [(CM.low n / 256 ^ k % 256).toUInt8]) := CM.leBytes_snoc _ _
      go_wp2
      go_roundw
      case rel => exact ⟨k + 1, by omega, by go_num, by rw [← CM.shr_succ], by rw [HN.out]; exact congrArg Value.string (CM.mk_append _ [_]), hb.alloc (by have := hb.size; omega) _⟩
      case measure => simp [intOf]; omega
    · obtain rfl : k = size := by omega
      go_wp2
      go_ret
      exact ⟨rfl, hb⟩
end Go.Proofs.Yteieplodndfbhaa.CW
namespace Go.Proofs.Yteieplodndfbhaa.CW
open Go.RowKit
set_option linter.unusedVariables false
set_option maxRecDepth 100000

theorem info5 : (Try.prog.info? 5).map (fun i => (i.zero, i.size, i.bytes)) = some (some (.int .u8 0), 1, 1) := by kernel_rfl

theorem put_no (n size : Int) (w : World) (h1 : size < 1 ∨ 8 < size) :
    Calls Try.prog 79 #[.int .i64 n, .int .i64 size] w fun e w' => e = .returned (.tuple #[.string ⟨#[]⟩, .int .i64 3]) ∧ w = w' := by
  go_enter Try.func79, Try.ntmps79
  go_wp2_with (go_at_call 89; refine (rightSize_no _ _ h1).mono ?_; rintro e w' ⟨rfl, rfl⟩)
  go_ret2
  exact ⟨rfl, rfl⟩

set_option maxHeartbeats 400000 in
theorem put_yes (n : Int) (size : Nat) (w : World) (h1 : 1 ≤ size) (h2 : size ≤ 8) :
    Calls Try.prog 79 #[.int .i64 n, .int .i64 size] w fun e w' => e = .returned (.tuple #[.string ⟨(Lib.leBytes size (CM.low n)).toArray⟩, .int .i64 0]) ∧ Below w.heap.size w w' := by
  obtain ⟨i0, hi, hz0, hz1, hz2⟩ := info_parts info5
  obtain ⟨w1, hmk, hown1, hgr1⟩ := run_make_full (P := Try.prog) w w.heap.size 80 5 i0 (.int .u8 0) 1 Try.underlying80 hi hz0 hz1 .i64 .i64 size (by rw [hz2]; omega) (by unfold maxLen; omega) (Nat.le_refl _)
  have hb1 : Below w.heap.size w w1 := (Below.refl _ _).grown hgr1 (Nat.le_refl _) (by intro k h; cases h)
  rw [Nat.mul_one, show (Value.int .u8 0).cells = #[Value.int .u8 0] from rfl, toList_madeCells_one, ← CM.row_zero size (CM.low n)] at hown1
  go_enter Try.func79, Try.ntmps79
  go_wp2_with (go_at_call 89; refine (rightSize_yes _ _ (by omega) (by omega)).mono ?_; rintro e w' ⟨rfl, rfl⟩)
  go_loopw [6, 18] (fun r i wr => ∃ k : Nat, k ≤ size ∧ i = .int .i64 k ∧ r = .int .u64 ((CM.low n / 256 ^ k : Nat) : Int) ∧ wr.ownsRow w.heap.size 5 1 (.slice (some ⟨w.heap.size, 0, none⟩) size size) size (CM.row size k (CM.low n)) ∧ Below w.heap.size w wr) (fun _ i _ => size - (intOf i).toNat)
  case atStart => exact ⟨0, by omega, rfl, by rw [CM.u64_low]; simp, hown1, hb1⟩
  case round =>
    obtain ⟨k, hk, rfl, rfl, hown, hb⟩ := hrel
    by_cases hlt : k < size
    · have hc : wr.cell? ⟨w.heap.size, k, none⟩ = some (.int .u8 0) := (hown.cellAt k (by omega)).trans (CM.row_get _ _ _ hlt)
      have hf : wr.frozen? ⟨w.heap.size, k, none⟩ = false := hown.frozenAt k
      have HS : Hid ((wr.setCell ⟨w.heap.size, k, none⟩ (.int .u8 (((CM.low n / 256 ^ k : Nat) : Int) % 256))).ownsRow w.heap.size 5 1 (.slice (some ⟨w.heap.size, 0, none⟩) size size) size (CM.row size (k + 1) (CM.low n)) ∧ Below w.heap.size w (wr.setCell ⟨w.heap.size, k, none⟩ (.int .u8 (((CM.low n / 256 ^ k : Nat) : Int) % 256)))) := by
        have h := hown.stored k (.int .u8 (((CM.low n / 256 ^ k : Nat) : Int) % 256))
        rw [CM.row_set _ _ _ hlt] at h
        exact ⟨h.1, hb.setCell (Nat.le_refl _) _⟩
      go_wp2
      go_roundw
      case rel => exact ⟨k + 1, by omega, by go_num, ret_int (CM.low_shr n k), HS.out.1, HS.out.2⟩
      case measure => simp [intOf]; omega
    · obtain rfl : k = size := by omega
      have hcv : (convert 80 9 (.slice (some ⟨w.heap.size, 0, none⟩) k k)).run Try.prog wr = .ok (.string ⟨(Lib.leBytes k (CM.low n)).toArray⟩) wr := by
        rw [← CM.strOfNums_bytes]
        refine run_convert_bytes_arg _ 80 5 Try.underlying80 Try.underlying5 _ 0 k k _ (by simp [Lib.leBytes_length]) ?_ 9 Try.underlying9
        intro i hi
        rw [Nat.zero_add, hown.cellAt i (by omega), CM.row_full]
        exact CM.byteCells_get _ i (by rw [Lib.leBytes_length]; exact hi)
      go_wp2
      go_ret2
      exact ⟨rfl, hb⟩
end Go.Proofs.Yteieplodndfbhaa.CW
