import Derived.Test.YteieplodndfbhaaGK00
import Derived.OwnWalk
/- Plain notions: pages that are gathered to areas; the cells of a list of areas; no Go in sight. -/
namespace Go.Proofs.Yteieplodndfbhaa.AM
open Go.RowKit
set_option linter.unusedVariables false
set_option maxRecDepth 100000

theorem cellsL_part (F : Nat → St) (k : Nat) (hk : k < 256) : (cellsL F).extract (k * 3) (k * 3 + 3) = #[.bool (F k).m, .int .i64 (F k).p, .bool (F k).z] := by
  apply Array.ext_getElem?
  intro j
  have hs := cellsL_size F
  rw [Array.getElem?_extract, hs]
  match j with
  | 0 => rw [if_pos (by omega)]; exact cellsL_get0 F k hk
  | 1 => rw [if_pos (by omega)]; exact cellsL_get1 F k hk
  | 2 => rw [if_pos (by omega)]; exact cellsL_get2 F k hk
  | j + 3 => rw [if_neg (by omega)]; simp

def lastTo (F : Nat → St) : Nat → St
  | 0 => off
  | k + 1 => F k
def stEq (a b : St) : Bool := a.m == b.m && (a.p == b.p && a.z == b.z)
/-- the last area has one page more -/
def bump (G : List Ar) : List Ar := G.set (G.length - 1) ⟨(at_ G (G.length - 1)).page, (at_ G (G.length - 1)).pages + 1, (at_ G (G.length - 1)).prot, (at_ G (G.length - 1)).zero⟩
def gatherTo (F : Nat → St) : Nat → List Ar
  | 0 => []
  | k + 1 => if (F k).m = false then gatherTo F k else if stEq (F k) (lastTo F k) then bump (gatherTo F k) else gatherTo F k ++ [⟨(k : Int), 1, (F k).p, (F k).z⟩]
/-- the areas of all pages -/
def gatherN (F : Nat → St) : List Ar := gatherTo F 256

def four (a : Ar) : List Value := [.int .i64 a.page, .int .i64 a.pages, .int .i64 a.prot, .bool a.zero]
def areaCells : List Ar → List Value
  | [] => []
  | a :: r => four a ++ areaCells r
theorem areaCells_length : ∀ G : List Ar, (areaCells G).length = G.length * 4
  | [] => rfl
  | a :: r => by simp [areaCells, four, areaCells_length r]; omega
theorem areaCells_append : ∀ G H : List Ar, areaCells (G ++ H) = areaCells G ++ areaCells H
  | [], H => rfl
  | a :: r, H => by simp [areaCells, areaCells_append r H]
theorem areaCells_get : ∀ (G : List Ar) (i j : Nat), i < G.length → j < 4 → (areaCells G)[i * 4 + j]? = (four (at_ G i))[j]?
  | [], i, j, h, _ => by simp at h
  | a :: r, 0, j, h, hj => by
    simp only [areaCells]
    rw [List.getElem?_append_left (by simp [four]; omega)]
    simp [at_]
  | a :: r, i + 1, j, h, hj => by
    simp only [areaCells]
    rw [List.getElem?_append_right (by simp [four]; omega), show (i + 1) * 4 + j - (four a).length = i * 4 + j from by simp [four]; omega, areaCells_get r i j (by simpa using h) hj]
    simp [at_]
theorem areaCells_set : ∀ (G : List Ar) (i : Nat) (n : Int), i < G.length → areaCells (G.set i ⟨(at_ G i).page, n, (at_ G i).prot, (at_ G i).zero⟩) = (areaCells G).set (i * 4 + 1) (.int .i64 n)
  | [], i, n, h => by simp at h
  | a :: r, 0, n, h => by simp [areaCells, four, at_]
  | a :: r, i + 1, n, h => by
    simp only [areaCells, List.set_cons_succ]
    rw [List.set_append_right _ _ (by simp [four]; omega), show (i + 1) * 4 + 1 - (four a).length = i * 4 + 1 from by simp [four]; omega]
    have e := areaCells_set r i n (by simpa using h)
    rw [← e]
    simp [at_]
theorem bump_length (G : List Ar) : (bump G).length = G.length := by simp [bump]
theorem areaCells_one : ∀ (G : List Ar), ∀ v ∈ areaCells G, v.oneCell' = true
  | [], v, h => by simp [areaCells] at h
  | a :: r, v, h => by
    simp only [areaCells, four, List.cons_append, List.nil_append, List.mem_cons] at h
    rcases h with rfl | rfl | rfl | rfl | h
    · rfl
    · rfl
    · rfl
    · rfl
    · exact areaCells_one r v h

theorem at_append_left (G H : List Ar) (i : Nat) (h : i < G.length) : at_ (G ++ H) i = at_ G i := by simp [at_, List.getElem?_append_left h]
theorem at_append_last (G : List Ar) (a : Ar) : at_ (G ++ [a]) G.length = a := by simp [at_]
theorem at_set_same (G : List Ar) (i : Nat) (a : Ar) (h : i < G.length) : at_ (G.set i a) i = a := by simp [at_, h]
theorem at_set_other (G : List Ar) (i j : Nat) (a : Ar) (h : j ≠ i) : at_ (G.set i a) j = at_ G j := by simp [at_, List.getElem?_set_ne (Ne.symm h)]

theorem gather_len (F : Nat → St) : ∀ k, (gatherTo F k).length ≤ k
  | 0 => by simp [gatherTo]
  | k + 1 => by
    have ih := gather_len F k
    simp only [gatherTo]
    split
    · omega
    · split
      · rw [bump_length]; omega
      · simp; omega
/-- behind a mapped page there is an area -/
theorem gather_some (F : Nat → St) : ∀ k, (lastTo F k).m = true → 0 < (gatherTo F k).length
  | 0, h => by simp [lastTo, off] at h
  | k + 1, h => by
    have h' : (F k).m = true := h
    simp only [gatherTo, h']
    rw [if_neg (by simp)]
    split
    · rename_i he
      have hm : (lastTo F k).m = true := by
        simp only [stEq, Bool.and_eq_true, beq_iff_eq] at he
        rw [← he.1]; exact h'
      rw [bump_length]
      exact gather_some F k hm
    · simp
theorem gather_pages (F : Nat → St) : ∀ k, ∀ i, i < (gatherTo F k).length → 1 ≤ (at_ (gatherTo F k) i).pages ∧ (at_ (gatherTo F k) i).pages ≤ k
  | 0, i, h => by simp [gatherTo] at h
  | k + 1, i, h => by
    have ih := gather_pages F k
    simp only [gatherTo] at h ⊢
    split
    · rename_i hm
      rw [if_pos hm] at h
      have := ih i h
      omega
    · rename_i hm
      rw [if_neg hm] at h
      split
      · rename_i he
        rw [if_pos he, bump_length] at h
        by_cases e : i = (gatherTo F k).length - 1
        · rw [e, bump, at_set_same _ _ _ (by omega)]
          have := ih ((gatherTo F k).length - 1) (by omega)
          simp only
          omega
        · rw [bump, at_set_other _ _ _ _ e]
          have := ih i h
          omega
      · rename_i he
        rw [if_neg he] at h
        by_cases e : i < (gatherTo F k).length
        · rw [at_append_left _ _ _ e]
          have := ih i e
          omega
        · obtain rfl : i = (gatherTo F k).length := by simp at h; omega
          rw [at_append_last]
          simp only
          omega
theorem stEq_eq (a b : St) (h : stEq a b = true) : a = b := by
  cases a; cases b
  simp only [stEq, Bool.and_eq_true, beq_iff_eq] at h
  obtain ⟨h1, h2, h3⟩ := h
  subst h1; subst h2; subst h3; rfl
theorem stEq_ne (a b : St) (h : stEq a b = false) : (a.m == b.m) = false ∨ ((a.m == b.m) = true ∧ (a.p == b.p) = false) ∨ ((a.m == b.m) = true ∧ (a.p == b.p) = true ∧ (a.z == b.z) = false) := by
  unfold stEq at h
  cases h1 : (a.m == b.m)
  · exact .inl rfl
  · cases h2 : (a.p == b.p)
    · exact .inr (.inl ⟨rfl, rfl⟩)
    · cases h3 : (a.z == b.z)
      · exact .inr (.inr ⟨rfl, rfl, rfl⟩)
      · rw [h1, h2, h3] at h; simp at h
end Go.Proofs.Yteieplodndfbhaa.AM
/- Plain notions: pages that are turned; no Go in sight. -/
namespace Go.Proofs.Yteieplodndfbhaa.AM
open Go.RowKit
set_option linter.unusedVariables false
set_option maxRecDepth 100000

/-- the pages from 'page' on, up to t (t itself not), have been turned -/
def turned (F : Nat → St) (how : St → St × Int) (page t : Int) : Nat → St := fun k => if page ≤ (k : Int) ∧ (k : Int) < t then (how (F k)).1 else F k
def errFrom (F : Nat → St) (how : St → St × Int) : Nat → Nat → Int
  | _, 0 => 0
  | n, c + 1 => if (how (F n)).2 = 0 then errFrom F how (n + 1) c else (how (F n)).2
/-- what turn answers -/
def turnN (l : List Ar) (page pages prot : Int) (how : St → St × Int) : List Ar × Int :=
  if checkN l = 0 then
    if pagesB page pages && protB prot then
      if errFrom (spreadN l) how page.toNat pages.toNat = 0 then (gatherN (turned (spreadN l) how page (page + pages)), 0)
      else ([], errFrom (spreadN l) how page.toNat pages.toNat)
    else ([], 3)
  else ([], checkN l)

theorem turned_begin (F : Nat → St) (how : St → St × Int) (page : Int) : turned F how page page = F := by
  funext k; simp only [turned]; rw [if_neg (by omega)]
theorem turned_at (F : Nat → St) (how : St → St × Int) (page : Int) (n : Nat) : turned F how page n n = F n := by
  simp only [turned]; rw [if_neg (by omega)]
theorem turned_step (F : Nat → St) (how : St → St × Int) (page : Int) (n : Nat) (h : page ≤ (n : Int)) : upd (turned F how page n) n (how (F n)).1 = turned F how page ((n : Int) + 1) := by
  funext k
  simp only [upd, turned]
  by_cases e : k = n
  · subst e; rw [if_pos rfl, if_pos ⟨h, by omega⟩]
  · rw [if_neg e]
    by_cases c : page ≤ (k : Int) ∧ (k : Int) < n
    · rw [if_pos c, if_pos ⟨c.1, by omega⟩]
    · rw [if_neg c, if_neg (by omega)]
theorem errFrom_zero (F : Nat → St) (how : St → St × Int) : ∀ (c n : Nat), (∀ k, n ≤ k → k < n + c → (how (F k)).2 = 0) → errFrom F how n c = 0
  | 0, _, _ => rfl
  | c + 1, n, h => by
    simp only [errFrom]
    rw [if_pos (h n (by omega) (by omega))]
    exact errFrom_zero F how c (n + 1) (fun k h1 h2 => h k (by omega) (by omega))
theorem errFrom_at (F : Nat → St) (how : St → St × Int) : ∀ (c n m : Nat), n ≤ m → m < n + c → (∀ k, n ≤ k → k < m → (how (F k)).2 = 0) → (how (F m)).2 ≠ 0 → errFrom F how n c = (how (F m)).2
  | 0, n, m, h1, h2, _, _ => by omega
  | c + 1, n, m, h1, h2, h, hm => by
    simp only [errFrom]
    by_cases e : n = m
    · subst e; rw [if_neg hm]
    · rw [if_pos (h n (by omega) (by omega))]
      exact errFrom_at F how c (n + 1) m (by omega) (by omega) (fun k h1 h2 => h k (by omega) h2) hm
theorem pagesB_iff (p n : Int) : pagesB p n = true ↔ 1 ≤ p ∧ 1 ≤ n ∧ n ≤ 256 - p := by simp [pagesB]
end Go.Proofs.Yteieplodndfbhaa.AM
/- Plain laws: gathering what is spread; no Go in sight. -/
namespace Go.Proofs.Yteieplodndfbhaa.AM
open Go.RowKit
set_option linter.unusedVariables false
set_option maxRecDepth 100000

/-- what page n has of the areas, whether they are right or not -/
def look (l : List Ar) (n : Nat) : St := let r := findFrom l n; if r.2 then ⟨true, r.1.prot, r.1.zero⟩ else off
def lastOf (G : List Ar) : Ar := at_ G (G.length - 1)
def okNext (G : List Ar) (a : Ar) : Bool := pagesB a.page a.pages && protB a.prot && (G.length == 0 || followB (lastOf G) a)

theorem hit_mk (p n q : Int) (z : Bool) (x : Int) : hit ⟨p, n, q, z⟩ x = decide (p ≤ x ∧ x < p + n) := rfl
theorem hit_iff (a : Ar) (x : Int) : hit a x = true ↔ a.page ≤ x ∧ x < a.page + a.pages := ⟨fun h => of_decide_eq_true h, fun h => decide_eq_true h⟩
theorem lastOf_snoc (G : List Ar) (a : Ar) : lastOf (G ++ [a]) = a := by simp [lastOf, at_]
theorem goodTo_append (G H : List Ar) : ∀ k, k ≤ G.length → goodTo (G ++ H) k = goodTo G k
  | 0, _ => rfl
  | k + 1, h => by
    simp only [goodTo, goodTo_append G H k (by omega)]
    congr 1
    unfold okAt
    rw [at_append_left G H k (by omega)]
    by_cases e : k = 0
    · subst e; rfl
    · rw [at_append_left G H (k - 1) (by omega)]
theorem good_snoc (G : List Ar) (a : Ar) : good (G ++ [a]) = (good G && okNext G a) := by
  unfold good
  rw [List.length_append]
  show goodTo (G ++ [a]) (G.length + 1) = _
  simp only [goodTo, goodTo_append G [a] G.length (Nat.le_refl _)]
  congr 1
  unfold okAt okNext lastOf
  rw [at_append_last]
  by_cases e : G.length = 0
  · simp [e]
  · rw [at_append_left G [a] (G.length - 1) (by omega)]
theorem findFrom_snoc : ∀ (G : List Ar) (a : Ar) (p : Int), findFrom (G ++ [a]) p = if (findFrom G p).2 then findFrom G p else if hit a p then (a, true) else (nil, false)
  | [], a, p => by simp [findFrom]
  | b :: r, a, p => by
    simp only [List.cons_append, findFrom]
    by_cases h : hit b p = true
    · simp [h]
    · simp [h, findFrom_snoc r a p]
theorem findFrom_miss : ∀ (G : List Ar) (p : Int), (findFrom G p).2 = false → findFrom G p = (nil, false)
  | [], p, _ => rfl
  | b :: r, p, h => by
    simp only [findFrom] at h ⊢
    by_cases c : hit b p = true
    · simp [c] at h
    · simp only [c] at h ⊢
      exact findFrom_miss r p h
theorem look_snoc (G : List Ar) (a : Ar) (n : Nat) : look (G ++ [a]) n = if (findFrom G n).2 then look G n else if hit a n then ⟨true, a.prot, a.zero⟩ else off := by
  unfold look
  rw [findFrom_snoc]
  by_cases h : (findFrom G n).2 = true
  · simp [h]
  · simp only [h]
    by_cases c : hit a n = true
    · simp [c]
    · simp [c]
/-- of right areas all pages lie ahead of where the last one ends -/
theorem good_bound : ∀ (m : Nat) (G : List Ar), G.length = m → good G = true → ∀ p : Int, (findFrom G p).2 = true → 1 ≤ p ∧ p < (lastOf G).last0
  | 0, G, hm, _, p, h => by
    have e : G = [] := List.eq_nil_of_length_eq_zero hm
    subst e; simp [findFrom] at h
  | m + 1, G, hm, hg, p, h => by
    rcases List.eq_nil_or_concat G with rfl | ⟨H, a, rfl⟩
    · simp at hm
    · rw [List.concat_eq_append] at *
      rw [good_snoc, Bool.and_eq_true] at hg
      obtain ⟨hgH, hok⟩ := hg
      rw [lastOf_snoc]
      simp only [okNext, Bool.and_eq_true, pagesB, decide_eq_true_eq] at hok
      obtain ⟨⟨hpa, _⟩, hfo⟩ := hok
      rw [findFrom_snoc] at h
      by_cases c : (findFrom H p).2 = true
      · have ih := good_bound m H (by simpa using hm) hgH p c
        refine ⟨ih.1, ?_⟩
        have hne : ¬ H.length = 0 := by
          intro e
          have e' : H = [] := List.eq_nil_of_length_eq_zero e
          subst e'; simp [findFrom] at c
        simp only [beq_iff_eq, Bool.or_eq_true, hne, false_or] at hfo
        have hle : (lastOf H).last0 ≤ a.page := by
          unfold followB at hfo
          split at hfo
          · omega
          · simp at hfo; omega
        unfold Ar.last0 at *
        omega
      · simp only [c] at h
        by_cases d : hit a p = true
        · simp only [hit, decide_eq_true_eq] at d
          unfold Ar.last0 at *
          omega
        · simp [d] at h

/-- states that can be gathered -/
structure Fine (F : Nat → St) : Prop where
  zero : (F 0).m = false
  none : ∀ n, (F n).m = false → F n = off
  prot : ∀ n, 0 ≤ (F n).p ∧ (F n).p ≤ 3

theorem bump_snoc (H : List Ar) (a : Ar) : bump (H ++ [a]) = H ++ [⟨a.page, a.pages + 1, a.prot, a.zero⟩] := by
  unfold bump
  have e : at_ (H ++ [a]) ((H ++ [a]).length - 1) = a := lastOf_snoc H a
  rw [e]
  simp

structure GInv (F : Nat → St) (k : Nat) (G : List Ar) : Prop where
  good : good G = true
  look : ∀ n : Nat, AM.look G n = if n < k then F n else off
  yes : (lastTo F k).m = true → 0 < G.length ∧ (lastOf G).last0 = k ∧ (lastOf G).prot = (lastTo F k).p ∧ (lastOf G).zero = (lastTo F k).z
  no : (lastTo F k).m = false → G.length = 0 ∨ (lastOf G).last0 < k ∨ k = 0

theorem look_hit (G : List Ar) (n : Nat) (h : AM.look G n = off) : (findFrom G n).2 = false := by
  unfold AM.look at h
  by_cases c : (findFrom G n).2 = true
  · simp only [c, if_true] at h
    have := congrArg St.m h
    simp [off] at this
  · simpa using c

theorem gather_inv (F : Nat → St) (hF : Fine F) : ∀ k, k ≤ 256 → GInv F k (gatherTo F k)
  | 0, _ => ⟨rfl, fun n => rfl, fun h => by simp [lastTo, off] at h, fun _ => .inl rfl⟩
  | k + 1, hk => by
    have ih := gather_inv F hF k (by omega)
    obtain ⟨G, hG⟩ : ∃ G, G = gatherTo F k := ⟨_, rfl⟩
    rw [← hG] at ih
    simp only [gatherTo]
    rw [← hG]
    by_cases hm : (F k).m = false
    · rw [if_pos hm]
      refine ⟨ih.good, fun n => ?_, fun h => ?_, fun _ => ?_⟩
      · rw [ih.look n]
        by_cases h1 : n < k
        · rw [if_pos h1, if_pos (by omega)]
        · rw [if_neg h1]
          by_cases h2 : n < k + 1
          · obtain rfl : n = k := by omega
            rw [if_pos h2, hF.none n hm]
          · rw [if_neg h2]
      · have : (F k).m = true := h
        rw [hm] at this; cases this
      · by_cases hl : (lastTo F k).m = true
        · obtain ⟨h0, h1, _⟩ := ih.yes hl
          exact .inr (.inl (by rw [h1]; omega))
        · rcases ih.no (by simpa using hl) with h | h | h
          · exact .inl h
          · exact .inr (.inl (by omega))
          · subst h
            have : G = [] := hG
            exact .inl (by rw [this]; rfl)
    · have hm' : (F k).m = true := by simpa using hm
      rw [if_neg hm]
      have hk1 : 1 ≤ k := by
        by_cases e : k = 0
        · subst e; rw [hF.zero] at hm'; cases hm'
        · omega
      have hmiss := look_hit G k (by rw [ih.look k, if_neg (by omega)])
      by_cases he : stEq (F k) (lastTo F k) = true
      · rw [if_pos he]
        have hst := stEq_eq _ _ he
        obtain ⟨h0, h1, h2, h3⟩ := ih.yes (by rw [← hst]; exact hm')
        rcases List.eq_nil_or_concat G with hnil | ⟨H, a, hH⟩
        · rw [hnil] at h0; simp at h0
        · rw [List.concat_eq_append] at hH
          rw [hH, lastOf_snoc] at h1 h2 h3
          have hg := ih.good
          rw [hH, good_snoc, Bool.and_eq_true] at hg
          obtain ⟨hgH, hok⟩ := hg
          have hok' := hok
          simp only [okNext, Bool.and_eq_true, pagesB, decide_eq_true_eq] at hok'
          obtain ⟨⟨hpa, hpr⟩, hfo⟩ := hok'
          rw [hH, bump_snoc]
          unfold Ar.last0 at h1
          refine ⟨?_, fun n => ?_, fun _ => ⟨by simp, ?_, ?_, ?_⟩, fun h => ?_⟩
          · rw [good_snoc, hgH, Bool.true_and]
            simp only [okNext, Bool.and_eq_true, pagesB, decide_eq_true_eq]
            exact ⟨⟨⟨hpa.1, by omega, by omega⟩, hpr⟩, hfo⟩
          · have hl := ih.look n
            rw [hH] at hl
            rw [look_snoc] at hl ⊢
            by_cases c : (findFrom H n).2 = true
            · rw [if_pos c] at hl ⊢
              rw [hl]
              have hb := good_bound _ H rfl hgH n c
              have hle : (n : Int) < a.page + a.pages := by
                have hne : ¬ H.length = 0 := by
                  intro e
                  have e' : H = [] := List.eq_nil_of_length_eq_zero e
                  subst e'; simp [findFrom] at c
                simp only [beq_iff_eq, Bool.or_eq_true, hne, false_or] at hfo
                have hle : (lastOf H).last0 ≤ a.page := by
                  unfold followB at hfo
                  split at hfo
                  · omega
                  · simp at hfo; omega
                omega
              rw [if_pos (show n < k by omega), if_pos (show n < k + 1 by omega)]
            · rw [if_neg c] at hl ⊢
              by_cases d : n = k
              · subst d
                rw [if_pos (by rw [hit_mk]; exact decide_eq_true (by omega)), if_pos (by omega)]
                show St.mk true a.prot a.zero = F n
                rw [h2, h3, ← hst, ← hm']
              · by_cases e : hit a n = true
                · rw [if_pos e] at hl
                  have e2 : hit ⟨a.page, a.pages + 1, a.prot, a.zero⟩ n = true := by
                    rw [hit_iff] at e; rw [hit_mk]; exact decide_eq_true (by omega)
                  rw [if_pos e2]
                  show St.mk true a.prot a.zero = _
                  rw [hl]
                  rw [hit_iff] at e
                  rw [if_pos (show n < k by omega), if_pos (show n < k + 1 by omega)]
                · have e2 : ¬ hit ⟨a.page, a.pages + 1, a.prot, a.zero⟩ n = true := by
                    rw [hit_iff] at e; rw [hit_mk, decide_eq_true_eq]; omega
                  rw [if_neg e] at hl
                  rw [if_neg e2, hl]
                  by_cases f : n < k
                  · rw [if_pos f, if_pos (by omega)]
                  · rw [if_neg f, if_neg (by omega)]
          · rw [lastOf_snoc]; show a.page + (a.pages + 1) = _; omega
          · rw [lastOf_snoc]; show a.prot = (F k).p; rw [h2, hst]
          · rw [lastOf_snoc]; show a.zero = (F k).z; rw [h3, hst]
          · have : (F k).m = false := h
            rw [hm'] at this; cases this
      · have he' : stEq (F k) (lastTo F k) = false := by simpa using he
        rw [if_neg he]
        refine ⟨?_, fun n => ?_, fun _ => ⟨by simp, ?_, ?_, ?_⟩, fun h => ?_⟩
        · rw [good_snoc, ih.good, Bool.true_and]
          simp only [okNext, Bool.and_eq_true, pagesB, protB, decide_eq_true_eq]
          refine ⟨⟨⟨by omega, by omega, by omega⟩, hF.prot k⟩, ?_⟩
          by_cases h0 : G.length = 0
          · simp [h0]
          · simp only [Bool.or_eq_true, beq_iff_eq, h0, false_or]
            by_cases hl : (lastTo F k).m = true
            · obtain ⟨_, h1, h2, h3⟩ := ih.yes hl
              unfold followB
              rw [if_pos h1.symm]
              rcases stEq_ne _ _ he' with q | ⟨_, q⟩ | ⟨_, _, q⟩
              · rw [hm', hl] at q; simp at q
              · simp only [Bool.or_eq_true, bne_iff_ne, h2]
                left
                simpa using q
              · simp only [Bool.or_eq_true, bne_iff_ne, h3]
                right
                simpa using q
            · rcases ih.no (by simpa using hl) with h | h | h
              · exact absurd h h0
              · unfold followB
                rw [if_neg (by show ¬ (k : Int) = _; omega)]
                simpa using h
              · omega
        · rw [look_snoc]
          by_cases c : (findFrom G n).2 = true
          · rw [if_pos c, ih.look n]
            by_cases f : n < k
            · rw [if_pos f, if_pos (by omega)]
            · exfalso
              have := look_hit G n (by rw [ih.look n, if_neg f])
              rw [c] at this; cases this
          · rw [if_neg c]
            have c' : (findFrom G n).2 = false := by simpa using c
            by_cases d : n = k
            · subst d
              rw [if_pos (by rw [hit_mk]; exact decide_eq_true (by omega)), if_pos (by omega)]
              show St.mk true (F n).p (F n).z = F n
              rw [← hm']
            · rw [if_neg (by rw [hit_mk, decide_eq_true_eq]; omega)]
              have hl := ih.look n
              have e0 : AM.look G n = off := by unfold AM.look; simp [c']
              rw [e0] at hl
              by_cases f : n < k
              · rw [if_pos f] at hl; rw [if_pos (by omega), hl]
              · rw [if_neg (by omega)]
        · rw [lastOf_snoc]; show (k : Int) + 1 = _; omega
        · rw [lastOf_snoc]; rfl
        · rw [lastOf_snoc]; rfl
        · have : (F k).m = false := h
          rw [hm'] at this; cases this

theorem gather_good (F : Nat → St) (hF : Fine F) : good (gatherN F) = true := (gather_inv F hF 256 (Nat.le_refl _)).good
theorem gather_look (F : Nat → St) (hF : Fine F) (n : Nat) (hn : n < 256) : look (gatherN F) n = F n := by
  have := (gather_inv F hF 256 (Nat.le_refl _)).look n
  rw [if_pos hn] at this
  exact this
theorem spread_look (l : List Ar) : ∀ (m : Nat) (G : List Ar), G.length = m → good G = true → ∀ n : Nat, look G n = spreadTo G G.length n
  | 0, G, hm, _, n => by
    have e : G = [] := List.eq_nil_of_length_eq_zero hm
    subst e; rfl
  | m + 1, G, hm, hg, n => by
    rcases List.eq_nil_or_concat G with rfl | ⟨H, a, rfl⟩
    · simp at hm
    · rw [List.concat_eq_append] at *
      rw [good_snoc, Bool.and_eq_true] at hg
      have ih := spread_look l m H (by simpa using hm) hg.1 n
      have hs : ∀ k, k ≤ H.length → spreadTo (H ++ [a]) k = spreadTo H k := by
        intro k
        induction k with
        | zero => intro _; rfl
        | succ k ihk => intro hk; simp only [spreadTo]; rw [ihk (by omega), at_append_left H [a] k (by omega)]
      rw [List.length_append]
      show _ = spreadTo (H ++ [a]) (H.length + 1) n
      simp only [spreadTo]
      rw [hs H.length (Nat.le_refl _), at_append_last, look_snoc]
      simp only [layTo]
      by_cases c : (findFrom H n).2 = true
      · rw [if_pos c, ih]
        have hb := good_bound _ H rfl hg.1 n c
        have hok := hg.2
        simp only [okNext, Bool.and_eq_true] at hok
        have hfo := hok.2
        have hne : ¬ H.length = 0 := by
          intro e
          have e' : H = [] := List.eq_nil_of_length_eq_zero e
          subst e'; simp [findFrom] at c
        simp only [beq_iff_eq, Bool.or_eq_true, hne, false_or] at hfo
        have hle : (lastOf H).last0 ≤ a.page := by
          unfold followB at hfo
          split at hfo
          · omega
          · simp at hfo; omega
        rw [if_neg (by omega)]
      · rw [if_neg c]
        have e0 : look H n = off := by unfold look; simp [show (findFrom H n).2 = false by simpa using c]
        by_cases d : hit a n = true
        · rw [if_pos d, if_pos (by simpa [hit] using d)]
        · rw [if_neg d, if_neg (by simpa [hit] using d), ← ih, e0]
end Go.Proofs.Yteieplodndfbhaa.AM
/- Plain laws: what Find tells of gathered and of spread areas; no Go in sight. -/
namespace Go.Proofs.Yteieplodndfbhaa.AM
open Go.RowKit
set_option linter.unusedVariables false
set_option maxRecDepth 100000

theorem good_of_check (l : List Ar) (h : checkN l = 0) : good l = true := by
  unfold checkN at h
  split at h
  · simp at h
  · split at h
    · assumption
    · simp at h
theorem spreadTo_fine (l : List Ar) (hc : checkN l = 0) : ∀ k, k ≤ l.length → (spreadTo l k 0).m = false ∧ (∀ n, (spreadTo l k n).m = false → spreadTo l k n = off) ∧ (∀ n, 0 ≤ (spreadTo l k n).p ∧ (spreadTo l k n).p ≤ 3)
  | 0, _ => ⟨rfl, fun n _ => rfl, fun n => by simp [spreadTo, off]⟩
  | k + 1, hk => by
    have ih := spreadTo_fine l hc k (by omega)
    have ho := okAt_pages l k (good_pages l hc k (by omega))
    refine ⟨?_, fun n => ?_, fun n => ?_⟩
    · simp only [spreadTo, layTo]; rw [if_neg (by omega)]; exact ih.1
    · simp only [spreadTo, layTo]
      split
      · intro h; simp at h
      · exact ih.2.1 n
    · simp only [spreadTo, layTo]
      split
      · exact ⟨ho.2.2.2.1, ho.2.2.2.2⟩
      · exact ih.2.2 n
theorem fine_spread (l : List Ar) (hc : checkN l = 0) : Fine (spreadN l) := by
  have h := spreadTo_fine l hc l.length (Nat.le_refl _)
  exact ⟨h.1, h.2.1, h.2.2⟩
theorem fine_turned (F : Nat → St) (hF : Fine F) (how : St → St × Int) (page t : Int) (hp : 1 ≤ page)
    (hn : ∀ s, (s.m = false → s = off) → ((how s).1.m = false → (how s).1 = off)) (hq : ∀ s, 0 ≤ s.p ∧ s.p ≤ 3 → 0 ≤ (how s).1.p ∧ (how s).1.p ≤ 3) : Fine (turned F how page t) := by
  refine ⟨?_, fun n => ?_, fun n => ?_⟩
  · simp only [turned]; rw [if_neg (by omega)]; exact hF.zero
  · simp only [turned]
    split
    · exact hn (F n) (hF.none n)
    · exact hF.none n
  · simp only [turned]
    split
    · exact hq (F n) (hF.prot n)
    · exact hF.prot n
theorem gather_len' (F : Nat → St) (h0 : (F 0).m = false) : ∀ k, (gatherTo F (k + 1)).length ≤ k
  | 0 => by simp [gatherTo, h0]
  | k + 1 => by
    have ih := gather_len' F h0 k
    rw [gatherTo]
    split
    · omega
    · split
      · rw [bump_length]; omega
      · simp; omega
theorem check_gather (F : Nat → St) (hF : Fine F) : checkN (gatherN F) = 0 := by
  have hl : (gatherN F).length ≤ 255 := gather_len' F hF.zero 255
  have hg := gather_good F hF
  unfold checkN
  rw [if_neg (by omega), if_pos hg]
theorem find_of_look (l : List Ar) (hc : checkN l = 0) (F : Nat → St) (p : Nat) (h : look l p = F p) : (findN l p).2 = (F p).m ∧ (findN l p).1.prot = (F p).p ∧ (findN l p).1.zero = (F p).z := by
  have e : findN l p = findFrom l p := by simp [findN, hc]
  rw [e, ← h]
  unfold look
  by_cases c : (findFrom l p).2 = true
  · simp [c]
  · have c' : (findFrom l p).2 = false := by simpa using c
    rw [findFrom_miss l p c']
    simp [nil, off]
theorem find_gather (F : Nat → St) (hF : Fine F) (p : Nat) (hp : p < 256) : (findN (gatherN F) p).2 = (F p).m ∧ (findN (gatherN F) p).1.prot = (F p).p ∧ (findN (gatherN F) p).1.zero = (F p).z :=
  find_of_look _ (check_gather F hF) F p (gather_look F hF p hp)
theorem find_spread (l : List Ar) (hc : checkN l = 0) (p : Nat) : (findN l p).2 = (spreadN l p).m ∧ (findN l p).1.prot = (spreadN l p).p ∧ (findN l p).1.zero = (spreadN l p).z :=
  find_of_look l hc (spreadN l) p (spread_look l _ l rfl (good_of_check l hc) p)
/-- areas that are right hold small numbers alone -/
theorem fits_of_check (l : List Ar) (hc : checkN l = 0) : (∀ i, i < l.length → Fits (at_ l i)) ∧ l.length ≤ 140737488351232 := by
  refine ⟨fun i hi => ?_, by have := good_len l hc; omega⟩
  have ho := okAt_pages l i (good_pages l hc i hi)
  unfold Fits
  omega
theorem err_zero (F : Nat → St) (how : St → St × Int) : ∀ (c n : Nat), errFrom F how n c = 0 → ∀ k, n ≤ k → k < n + c → (how (F k)).2 = 0
  | 0, n, _, k, h1, h2 => by omega
  | c + 1, n, h, k, h1, h2 => by
    simp only [errFrom] at h
    split at h
    · rename_i h0
      by_cases e : k = n
      · rw [e]; exact h0
      · exact err_zero F how c (n + 1) h k (by omega) (by omega)
    · rename_i h0; exact absurd h h0
end Go.Proofs.Yteieplodndfbhaa.AM
/- Linked programs as plain Lean data: are they right? -/
namespace Go.Proofs.Yteieplodndfbhaa.LM
open Go.RowKit
set_option linter.unusedVariables false
set_option maxRecDepth 100000

def pagesN (a : AM.Ar) (n : Nat) : List Int := (List.range n).map (fun m : Nat => a.page + (m : Int))
/-- the pages of the first i areas, in order -/
def pagesTo (l : List AM.Ar) : Nat → List Int
  | 0 => []
  | i + 1 => pagesTo l i ++ pagesN (AM.at_ l i) (AM.at_ l i).pages.toNat
def pagesOf (l : List AM.Ar) : List Int := pagesTo l l.length
/-- is there just one sheet for each page, in order? -/
def forEachB (l : List AM.Ar) (hs : List Sh) : Bool := decide (hs.map (·.page) = pagesOf l)
def zeroTo (l : List AM.Ar) : Nat → Bool
  | 0 => false
  | k + 1 => zeroTo l k || (AM.at_ l k).zero
def anyZeroB (l : List AM.Ar) : Bool := zeroTo l l.length
def sheetsTo (hs : List Sh) : Nat → Bool
  | 0 => true
  | k + 1 => sheetsTo hs k && sheetB (shAt hs k)
def sheetsB (hs : List Sh) : Bool := sheetsTo hs hs.length
def entB (l : List AM.Ar) (en : Int) : Bool := (AM.findFrom l (en.tdiv 16)).2 && (decide (2 ≤ (AM.findFrom l (en.tdiv 16)).1.prot) && decide (en.tmod 8 = 0))
/-- what Check answers -/
def checkL (l : List AM.Ar) (hs : List Sh) (en : Int) : Int := if AM.checkN l = 0 then (if !anyZeroB l && (forEachB l hs && (sheetsB hs && entB l en)) then 0 else 1) else AM.checkN l

theorem pagesN_succ (a : AM.Ar) (n : Nat) : pagesN a (n + 1) = pagesN a n ++ [a.page + (n : Int)] := by
  unfold pagesN
  rw [List.range_succ, List.map_append]
  rfl
theorem pagesN_split (a : AM.Ar) (n m : Nat) (h : n < m) : ∃ t, pagesN a m = pagesN a n ++ (a.page + (n : Int)) :: t := by
  induction m with
  | zero => omega
  | succ m ih =>
    by_cases e : n = m
    · subst e; exact ⟨[], pagesN_succ a n⟩
    · obtain ⟨t, ht⟩ := ih (by omega)
      exact ⟨t ++ [a.page + (m : Int)], by rw [pagesN_succ, ht]; simp⟩
theorem pagesTo_more (l : List AM.Ar) (i : Nat) : ∀ n, i ≤ n → ∃ t, pagesTo l n = pagesTo l i ++ t
  | 0, h => by obtain rfl : i = 0 := by omega
               exact ⟨[], by simp⟩
  | n + 1, h => by
    by_cases e : i = n + 1
    · subst e; exact ⟨[], by simp⟩
    · obtain ⟨t, ht⟩ := pagesTo_more l i n (by omega)
      exact ⟨t ++ pagesN (AM.at_ l n) (AM.at_ l n).pages.toNat, by simp only [pagesTo]; rw [ht, List.append_assoc]⟩
theorem pages_split (l : List AM.Ar) (i : Nat) (hi : i < l.length) (n : Nat) (hn : n < (AM.at_ l i).pages.toNat) : ∃ t, pagesOf l = (pagesTo l i ++ pagesN (AM.at_ l i) n) ++ ((AM.at_ l i).page + (n : Int)) :: t := by
  obtain ⟨t, ht⟩ := pagesTo_more l (i + 1) l.length (by omega)
  obtain ⟨u, hu⟩ := pagesN_split (AM.at_ l i) n _ hn
  refine ⟨u ++ t, ?_⟩
  unfold pagesOf
  rw [ht]
  simp only [pagesTo]
  rw [hu]
  simp
theorem zeroTo_mono (l : List AM.Ar) : ∀ (k n : Nat), k ≤ n → zeroTo l k = true → zeroTo l n = true
  | k, 0, h, hk => by obtain rfl : k = 0 := by omega
                      exact hk
  | k, n + 1, h, hk => by
    by_cases e : k = n + 1
    · subst e; exact hk
    · simp [zeroTo, zeroTo_mono l k n (by omega) hk]
theorem zero_at (l : List AM.Ar) (k : Nat) (hk : k < l.length) (h : (AM.at_ l k).zero = true) : anyZeroB l = true := zeroTo_mono l (k + 1) l.length (by omega) (by simp [zeroTo, h])
theorem zero_none (l : List AM.Ar) : ∀ n, zeroTo l n = false → ∀ i, i < n → (AM.at_ l i).zero = false
  | 0, _, i, hi => by omega
  | n + 1, h, i, hi => by
    simp only [zeroTo, Bool.or_eq_false_iff] at h
    by_cases e : i = n
    · subst e; exact h.2
    · exact zero_none l n h.1 i (by omega)
theorem sheetsTo_false (l : List Sh) : ∀ (k n : Nat), k ≤ n → sheetsTo l k = false → sheetsTo l n = false
  | k, 0, h, hk => by obtain rfl : k = 0 := by omega
                      exact hk
  | k, n + 1, h, hk => by
    by_cases e : k = n + 1
    · subst e; exact hk
    · simp [sheetsTo, sheetsTo_false l k n (by omega) hk]
theorem sheets_bad (l : List Sh) (k : Nat) (hk : k < l.length) (h : sheetB (shAt l k) = false) : sheetsB l = false := sheetsTo_false l (k + 1) l.length (by omega) (by simp [sheetsTo, h])
theorem sheetsTo_ok (l : List Sh) : ∀ n, sheetsTo l n = true → ∀ i, i < n → sheetB (shAt l i) = true
  | 0, _, i, hi => by omega
  | n + 1, h, i, hi => by
    simp only [sheetsTo, Bool.and_eq_true] at h
    by_cases e : i = n
    · subst e; exact h.2
    · exact sheetsTo_ok l n h.1 i (by omega)

theorem map_take_snoc (hs : List Sh) (c : Nat) (h : c < hs.length) : (hs.take (c + 1)).map (·.page) = (hs.take c).map (·.page) ++ [(shAt hs c).page] := by
  rw [List.take_succ_eq_append_getElem h, List.map_append]
  unfold shAt
  rw [List.getD_eq_getElem?_getD, List.getElem?_eq_getElem h]
  rfl
/-- there are too few -/
theorem each_short {l : List AM.Ar} {hs : List Sh} {pre t : List Int} {x : Int} (hp : (hs.take hs.length).map (·.page) = pre) (ho : pagesOf l = pre ++ x :: t) : forEachB l hs = false := by
  unfold forEachB
  refine decide_eq_false (fun e => ?_)
  rw [List.take_length] at hp
  rw [hp, ho] at e
  have := congrArg List.length e
  simp at this
/-- another page -/
theorem each_other {l : List AM.Ar} {hs : List Sh} {pre t : List Int} {x : Int} {c : Nat} (hc : c < hs.length) (hp : (hs.take c).map (·.page) = pre) (ho : pagesOf l = pre ++ x :: t) (hx : (shAt hs c).page ≠ x) : forEachB l hs = false := by
  unfold forEachB
  refine decide_eq_false (fun e => ?_)
  have h1 := map_take_snoc hs c hc
  rw [hp] at h1
  have h2 : hs.map (·.page) = (hs.take (c + 1)).map (·.page) ++ (hs.drop (c + 1)).map (·.page) := by rw [← List.map_append, List.take_append_drop]
  rw [h2, h1, ho, List.append_assoc] at e
  have := List.append_cancel_left e
  simp at this
  exact hx this.1
theorem each_done {l : List AM.Ar} {hs : List Sh} {c : Nat} (hc : c ≤ hs.length) (hp : (hs.take c).map (·.page) = pagesTo l l.length) : forEachB l hs = decide (c = hs.length) := by
  unfold forEachB
  by_cases e : c = hs.length
  · subst e
    rw [List.take_length] at hp
    have hp' : hs.map (·.page) = pagesOf l := hp
    rw [decide_eq_true hp', decide_eq_true rfl]
  · rw [decide_eq_false e]
    refine decide_eq_false (fun g => ?_)
    have h1 := congrArg List.length hp
    have h2 := congrArg List.length g
    rw [List.length_map, List.length_take] at h1
    rw [List.length_map] at h2
    unfold pagesOf at h2
    omega
/-- the cells of sheets -/
def LieH (w : World) (b off : Nat) (l : List Sh) : Prop := ∀ i, i < l.length →
  w.cell? ⟨b, off + i * 3, none⟩ = some (.int .i64 (shAt l i).page) ∧ w.cell? ⟨b, off + i * 3 + 1, none⟩ = some (.string (shAt l i).data) ∧ w.cell? ⟨b, off + i * 3 + 2, none⟩ = some (.slice (shAt l i).ao (shAt l i).fixes.length (shAt l i).cap) ∧ HasF w (shAt l i).ao (shAt l i).fixes
theorem lieH {w w' : World} {b off : Nat} {l : List Sh} (hb : Below w.heap.size w w') (hlt : b < w.heap.size) (h : LieH w b off l) : LieH w' b off l := fun i hi => by
  obtain ⟨c0, c1, c2, c3⟩ := h i hi
  exact ⟨(M.below_cell hb hlt).trans c0, (M.below_cell hb hlt).trans c1, (M.below_cell hb hlt).trans c2, c3.below hb⟩
def HasH (w : World) (ao : Option Addr) (l : List Sh) : Prop := M.HasBy LieH w ao l
theorem HasH.below {w w' : World} {ao : Option Addr} {l : List Sh} (h : HasH w ao l) (hb : Below w.heap.size w w') : HasH w' ao l := M.HasBy.below (lie := LieH) (fun hb hlt h => lieH hb hlt h) h hb
def FitHs (l : List Sh) : Prop := M.Short l.length ∧ ∀ k, k < l.length → FitH (shAt l k)
theorem prot_cases {p : Int} (h : 0 ≤ p ∧ p ≤ 3) : p = 0 ∨ p = 1 ∨ p = 2 ∨ p = 3 := by omega
/-- an area that was found has a right Prot -/
theorem found_prot (l : List AM.Ar) (hc : AM.checkN l = 0) (p : Int) (h : (AM.findFrom l p).2 = true) : 0 ≤ (AM.findFrom l p).1.prot ∧ (AM.findFrom l p).1.prot ≤ 3 := by
  by_cases e : ∃ k, k < l.length ∧ AM.hit (AM.at_ l k) p = true
  · obtain ⟨k, hk, hh⟩ := e
    have : ∃ k, k < l.length ∧ AM.hit (AM.at_ l k) p = true ∧ ∀ i, i < k → AM.hit (AM.at_ l i) p = false := by
      induction k using Nat.strongRecOn with
      | _ k ih =>
        by_cases g : ∃ j, j < k ∧ AM.hit (AM.at_ l j) p = true
        · obtain ⟨j, hj, hj2⟩ := g
          exact ih j hj (by omega) hj2
        · exact ⟨k, hk, hh, fun i hi => by
            cases q : AM.hit (AM.at_ l i) p
            · rfl
            · exact (g ⟨i, hi, q⟩).elim⟩
    obtain ⟨k, hk, h1, h2⟩ := this
    rw [AM.findFrom_at l p k hk h2 h1]
    have := AM.okAt_pages l k (AM.good_pages l hc k hk)
    exact ⟨this.2.2.2.1, this.2.2.2.2⟩
  · rw [AM.findFrom_none l p (fun i hi => by
      cases q : AM.hit (AM.at_ l i) p
      · rfl
      · exact (e ⟨i, hi, q⟩).elim)] at h
    cases h
end Go.Proofs.Yteieplodndfbhaa.LM
