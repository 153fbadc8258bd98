import Derived.Test.YtbgnagognnklbaaG04
/- Plain notions: pages that are turned; no Go in sight. -/
namespace Go.Proofs.Ytbgnagognnklbaa.AM
open Go.RowKit
set_option linter.unusedVariables false
set_option maxRecDepth 100000

/-- the pages from 'page' on, up to t (t itself not), have been turned -/
def turned (F : Nat → St) (how : St → St × Int) (page t : Int) : Nat → St := fun k => if page ≤ (k : Int) ∧ (k : Int) < t then (how (F k)).1 else F k
def errFrom (F : Nat → St) (how : St → St × Int) : Nat → Nat → Int
  | _, 0 => 0
  | n, c + 1 => if (how (F n)).2 = 0 then errFrom F how (n + 1) c else (how (F n)).2
/-- what turn answers -/
def turnN (l : List Ar) (page pages prot : Int) (how : St → St × Int) : List Ar × Int :=
  if checkN l = 0 then
    if pagesB page pages && protB prot then
      if errFrom (spreadN l) how page.toNat pages.toNat = 0 then (gatherN (turned (spreadN l) how page (page + pages)), 0)
      else ([], errFrom (spreadN l) how page.toNat pages.toNat)
    else ([], 3)
  else ([], checkN l)

theorem turned_begin (F : Nat → St) (how : St → St × Int) (page : Int) : turned F how page page = F := by
  funext k; simp only [turned]; rw [if_neg (by omega)]
theorem turned_at (F : Nat → St) (how : St → St × Int) (page : Int) (n : Nat) : turned F how page n n = F n := by
  simp only [turned]; rw [if_neg (by omega)]
theorem turned_step (F : Nat → St) (how : St → St × Int) (page : Int) (n : Nat) (h : page ≤ (n : Int)) : upd (turned F how page n) n (how (F n)).1 = turned F how page ((n : Int) + 1) := by
  funext k
  simp only [upd, turned]
  by_cases e : k = n
  · subst e; rw [if_pos rfl, if_pos ⟨h, by omega⟩]
  · rw [if_neg e]
    by_cases c : page ≤ (k : Int) ∧ (k : Int) < n
    · rw [if_pos c, if_pos ⟨c.1, by omega⟩]
    · rw [if_neg c, if_neg (by omega)]
theorem errFrom_zero (F : Nat → St) (how : St → St × Int) : ∀ (c n : Nat), (∀ k, n ≤ k → k < n + c → (how (F k)).2 = 0) → errFrom F how n c = 0
  | 0, _, _ => rfl
  | c + 1, n, h => by
    simp only [errFrom]
    rw [if_pos (h n (by omega) (by omega))]
    exact errFrom_zero F how c (n + 1) (fun k h1 h2 => h k (by omega) (by omega))
theorem errFrom_at (F : Nat → St) (how : St → St × Int) : ∀ (c n m : Nat), n ≤ m → m < n + c → (∀ k, n ≤ k → k < m → (how (F k)).2 = 0) → (how (F m)).2 ≠ 0 → errFrom F how n c = (how (F m)).2
  | 0, n, m, h1, h2, _, _ => by omega
  | c + 1, n, m, h1, h2, h, hm => by
    simp only [errFrom]
    by_cases e : n = m
    · subst e; rw [if_neg hm]
    · rw [if_pos (h n (by omega) (by omega))]
      exact errFrom_at F how c (n + 1) m (by omega) (by omega) (fun k h1 h2 => h k (by omega) h2) hm
theorem pagesB_iff (p n : Int) : pagesB p n = true ↔ 1 ≤ p ∧ 1 ≤ n ∧ n ≤ 256 - p := by simp [pagesB]
end Go.Proofs.Ytbgnagognnklbaa.AM
/- Plain laws: gathering what is spread; no Go in sight. -/
namespace Go.Proofs.Ytbgnagognnklbaa.AM
open Go.RowKit
set_option linter.unusedVariables false
set_option maxRecDepth 100000

/-- what page n has of the areas, whether they are right or not -/
def look (l : List Ar) (n : Nat) : St := let r := findFrom l n; if r.2 then ⟨true, r.1.prot, r.1.zero⟩ else off
def lastOf (G : List Ar) : Ar := at_ G (G.length - 1)
def okNext (G : List Ar) (a : Ar) : Bool := pagesB a.page a.pages && protB a.prot && (G.length == 0 || followB (lastOf G) a)

theorem hit_mk (p n q : Int) (z : Bool) (x : Int) : hit ⟨p, n, q, z⟩ x = decide (p ≤ x ∧ x < p + n) := rfl
theorem hit_iff (a : Ar) (x : Int) : hit a x = true ↔ a.page ≤ x ∧ x < a.page + a.pages := ⟨fun h => of_decide_eq_true h, fun h => decide_eq_true h⟩
theorem lastOf_snoc (G : List Ar) (a : Ar) : lastOf (G ++ [a]) = a := by simp [lastOf, at_]
theorem goodTo_append (G H : List Ar) : ∀ k, k ≤ G.length → goodTo (G ++ H) k = goodTo G k
  | 0, _ => rfl
  | k + 1, h => by
    simp only [goodTo, goodTo_append G H k (by omega)]
    congr 1
    unfold okAt
    rw [at_append_left G H k (by omega)]
    by_cases e : k = 0
    · subst e; rfl
    · rw [at_append_left G H (k - 1) (by omega)]
theorem good_snoc (G : List Ar) (a : Ar) : good (G ++ [a]) = (good G && okNext G a) := by
  unfold good
  rw [List.length_append]
  show goodTo (G ++ [a]) (G.length + 1) = _
  simp only [goodTo, goodTo_append G [a] G.length (Nat.le_refl _)]
  congr 1
  unfold okAt okNext lastOf
  rw [at_append_last]
  by_cases e : G.length = 0
  · simp [e]
  · rw [at_append_left G [a] (G.length - 1) (by omega)]
theorem findFrom_snoc : ∀ (G : List Ar) (a : Ar) (p : Int), findFrom (G ++ [a]) p = if (findFrom G p).2 then findFrom G p else if hit a p then (a, true) else (nil, false)
  | [], a, p => by simp [findFrom]
  | b :: r, a, p => by
    simp only [List.cons_append, findFrom]
    by_cases h : hit b p = true
    · simp [h]
    · simp [h, findFrom_snoc r a p]
theorem findFrom_miss : ∀ (G : List Ar) (p : Int), (findFrom G p).2 = false → findFrom G p = (nil, false)
  | [], p, _ => rfl
  | b :: r, p, h => by
    simp only [findFrom] at h ⊢
    by_cases c : hit b p = true
    · simp [c] at h
    · simp only [c] at h ⊢
      exact findFrom_miss r p h
theorem look_snoc (G : List Ar) (a : Ar) (n : Nat) : look (G ++ [a]) n = if (findFrom G n).2 then look G n else if hit a n then ⟨true, a.prot, a.zero⟩ else off := by
  unfold look
  rw [findFrom_snoc]
  by_cases h : (findFrom G n).2 = true
  · simp [h]
  · simp only [h]
    by_cases c : hit a n = true
    · simp [c]
    · simp [c]
/-- of right areas all pages lie ahead of where the last one ends -/
theorem good_bound : ∀ (m : Nat) (G : List Ar), G.length = m → good G = true → ∀ p : Int, (findFrom G p).2 = true → 1 ≤ p ∧ p < (lastOf G).last0
  | 0, G, hm, _, p, h => by
    have e : G = [] := List.eq_nil_of_length_eq_zero hm
    subst e; simp [findFrom] at h
  | m + 1, G, hm, hg, p, h => by
    rcases List.eq_nil_or_concat G with rfl | ⟨H, a, rfl⟩
    · simp at hm
    · rw [List.concat_eq_append] at *
      rw [good_snoc, Bool.and_eq_true] at hg
      obtain ⟨hgH, hok⟩ := hg
      rw [lastOf_snoc]
      simp only [okNext, Bool.and_eq_true, pagesB, decide_eq_true_eq] at hok
      obtain ⟨⟨hpa, _⟩, hfo⟩ := hok
      rw [findFrom_snoc] at h
      by_cases c : (findFrom H p).2 = true
      · have ih := good_bound m H (by simpa using hm) hgH p c
        refine ⟨ih.1, ?_⟩
        have hne : ¬ H.length = 0 := by
          intro e
          have e' : H = [] := List.eq_nil_of_length_eq_zero e
          subst e'; simp [findFrom] at c
        simp only [beq_iff_eq, Bool.or_eq_true, hne, false_or] at hfo
        have hle : (lastOf H).last0 ≤ a.page := by
          unfold followB at hfo
          split at hfo
          · omega
          · simp at hfo; omega
        unfold Ar.last0 at *
        omega
      · simp only [c] at h
        by_cases d : hit a p = true
        · simp only [hit, decide_eq_true_eq] at d
          unfold Ar.last0 at *
          omega
        · simp [d] at h

/-- states that can be gathered -/
structure Fine (F : Nat → St) : Prop where
  zero : (F 0).m = false
  none : ∀ n, (F n).m = false → F n = off
  prot : ∀ n, 0 ≤ (F n).p ∧ (F n).p ≤ 3

theorem bump_snoc (H : List Ar) (a : Ar) : bump (H ++ [a]) = H ++ [⟨a.page, a.pages + 1, a.prot, a.zero⟩] := by
  unfold bump
  have e : at_ (H ++ [a]) ((H ++ [a]).length - 1) = a := lastOf_snoc H a
  rw [e]
  simp

structure GInv (F : Nat → St) (k : Nat) (G : List Ar) : Prop where
  good : good G = true
  look : ∀ n : Nat, AM.look G n = if n < k then F n else off
  yes : (lastTo F k).m = true → 0 < G.length ∧ (lastOf G).last0 = k ∧ (lastOf G).prot = (lastTo F k).p ∧ (lastOf G).zero = (lastTo F k).z
  no : (lastTo F k).m = false → G.length = 0 ∨ (lastOf G).last0 < k ∨ k = 0

theorem look_hit (G : List Ar) (n : Nat) (h : AM.look G n = off) : (findFrom G n).2 = false := by
  unfold AM.look at h
  by_cases c : (findFrom G n).2 = true
  · simp only [c, if_true] at h
    have := congrArg St.m h
    simp [off] at this
  · simpa using c

theorem gather_inv (F : Nat → St) (hF : Fine F) : ∀ k, k ≤ 256 → GInv F k (gatherTo F k)
  | 0, _ => ⟨rfl, fun n => rfl, fun h => by simp [lastTo, off] at h, fun _ => .inl rfl⟩
  | k + 1, hk => by
    have ih := gather_inv F hF k (by omega)
    obtain ⟨G, hG⟩ : ∃ G, G = gatherTo F k := ⟨_, rfl⟩
    rw [← hG] at ih
    simp only [gatherTo]
    rw [← hG]
    by_cases hm : (F k).m = false
    · rw [if_pos hm]
      refine ⟨ih.good, fun n => ?_, fun h => ?_, fun _ => ?_⟩
      · rw [ih.look n]
        by_cases h1 : n < k
        · rw [if_pos h1, if_pos (by omega)]
        · rw [if_neg h1]
          by_cases h2 : n < k + 1
          · obtain rfl : n = k := by omega
            rw [if_pos h2, hF.none n hm]
          · rw [if_neg h2]
      · have : (F k).m = true := h
        rw [hm] at this; cases this
      · by_cases hl : (lastTo F k).m = true
        · obtain ⟨h0, h1, _⟩ := ih.yes hl
          exact .inr (.inl (by rw [h1]; omega))
        · rcases ih.no (by simpa using hl) with h | h | h
          · exact .inl h
          · exact .inr (.inl (by omega))
          · subst h
            have : G = [] := hG
            exact .inl (by rw [this]; rfl)
    · have hm' : (F k).m = true := by simpa using hm
      rw [if_neg hm]
      have hk1 : 1 ≤ k := by
        by_cases e : k = 0
        · subst e; rw [hF.zero] at hm'; cases hm'
        · omega
      have hmiss := look_hit G k (by rw [ih.look k, if_neg (by omega)])
      by_cases he : stEq (F k) (lastTo F k) = true
      · rw [if_pos he]
        have hst := stEq_eq _ _ he
        obtain ⟨h0, h1, h2, h3⟩ := ih.yes (by rw [← hst]; exact hm')
        rcases List.eq_nil_or_concat G with hnil | ⟨H, a, hH⟩
        · rw [hnil] at h0; simp at h0
        · rw [List.concat_eq_append] at hH
          rw [hH, lastOf_snoc] at h1 h2 h3
          have hg := ih.good
          rw [hH, good_snoc, Bool.and_eq_true] at hg
          obtain ⟨hgH, hok⟩ := hg
          have hok' := hok
          simp only [okNext, Bool.and_eq_true, pagesB, decide_eq_true_eq] at hok'
          obtain ⟨⟨hpa, hpr⟩, hfo⟩ := hok'
          rw [hH, bump_snoc]
          unfold Ar.last0 at h1
          refine ⟨?_, fun n => ?_, fun _ => ⟨by simp, ?_, ?_, ?_⟩, fun h => ?_⟩
          · rw [good_snoc, hgH, Bool.true_and]
            simp only [okNext, Bool.and_eq_true, pagesB, decide_eq_true_eq]
            exact ⟨⟨⟨hpa.1, by omega, by omega⟩, hpr⟩, hfo⟩
          · have hl := ih.look n
            rw [hH] at hl
            rw [look_snoc] at hl ⊢
            by_cases c : (findFrom H n).2 = true
            · rw [if_pos c] at hl ⊢
              rw [hl]
              have hb := good_bound _ H rfl hgH n c
              have hle : (n : Int) < a.page + a.pages := by
                have hne : ¬ H.length = 0 := by
                  intro e
                  have e' : H = [] := List.eq_nil_of_length_eq_zero e
                  subst e'; simp [findFrom] at c
                simp only [beq_iff_eq, Bool.or_eq_true, hne, false_or] at hfo
                have hle : (lastOf H).last0 ≤ a.page := by
                  unfold followB at hfo
                  split at hfo
                  · omega
                  · simp at hfo; omega
                omega
              rw [if_pos (show n < k by omega), if_pos (show n < k + 1 by omega)]
            · rw [if_neg c] at hl ⊢
              by_cases d : n = k
              · subst d
                rw [if_pos (by rw [hit_mk]; exact decide_eq_true (by omega)), if_pos (by omega)]
                show St.mk true a.prot a.zero = F n
                rw [h2, h3, ← hst, ← hm']
              · by_cases e : hit a n = true
                · rw [if_pos e] at hl
                  have e2 : hit ⟨a.page, a.pages + 1, a.prot, a.zero⟩ n = true := by
                    rw [hit_iff] at e; rw [hit_mk]; exact decide_eq_true (by omega)
                  rw [if_pos e2]
                  show St.mk true a.prot a.zero = _
                  rw [hl]
                  rw [hit_iff] at e
                  rw [if_pos (show n < k by omega), if_pos (show n < k + 1 by omega)]
                · have e2 : ¬ hit ⟨a.page, a.pages + 1, a.prot, a.zero⟩ n = true := by
                    rw [hit_iff] at e; rw [hit_mk, decide_eq_true_eq]; omega
                  rw [if_neg e] at hl
                  rw [if_neg e2, hl]
                  by_cases f : n < k
                  · rw [if_pos f, if_pos (by omega)]
                  · rw [if_neg f, if_neg (by omega)]
          · rw [lastOf_snoc]; show a.page + (a.pages + 1) = _; omega
          · rw [lastOf_snoc]; show a.prot = (F k).p; rw [h2, hst]
          · rw [lastOf_snoc]; show a.zero = (F k).z; rw [h3, hst]
          · have : (F k).m = false := h
            rw [hm'] at this; cases this
      · have he' : stEq (F k) (lastTo F k) = false := by simpa using he
        rw [if_neg he]
        refine ⟨?_, fun n => ?_, fun _ => ⟨by simp, ?_, ?_, ?_⟩, fun h => ?_⟩
        · rw [good_snoc, ih.good, Bool.true_and]
          simp only [okNext, Bool.and_eq_true, pagesB, protB, decide_eq_true_eq]
          refine ⟨⟨⟨by omega, by omega, by omega⟩, hF.prot k⟩, ?_⟩
          by_cases h0 : G.length = 0
          · simp [h0]
          · simp only [Bool.or_eq_true, beq_iff_eq, h0, false_or]
            by_cases hl : (lastTo F k).m = true
            · obtain ⟨_, h1, h2, h3⟩ := ih.yes hl
              unfold followB
              rw [if_pos h1.symm]
              rcases stEq_ne _ _ he' with q | ⟨_, q⟩ | ⟨_, _, q⟩
              · rw [hm', hl] at q; simp at q
              · simp only [Bool.or_eq_true, bne_iff_ne, h2]
                left
                simpa using q
              · simp only [Bool.or_eq_true, bne_iff_ne, h3]
                right
                simpa using q
            · rcases ih.no (by simpa using hl) with h | h | h
              · exact absurd h h0
              · unfold followB
                rw [if_neg (by show ¬ (k : Int) = _; omega)]
                simpa using h
              · omega
        · rw [look_snoc]
          by_cases c : (findFrom G n).2 = true
          · rw [if_pos c, ih.look n]
            by_cases f : n < k
            · rw [if_pos f, if_pos (by omega)]
            · exfalso
              have := look_hit G n (by rw [ih.look n, if_neg f])
              rw [c] at this; cases this
          · rw [if_neg c]
            have c' : (findFrom G n).2 = false := by simpa using c
            by_cases d : n = k
            · subst d
              rw [if_pos (by rw [hit_mk]; exact decide_eq_true (by omega)), if_pos (by omega)]
              show St.mk true (F n).p (F n).z = F n
              rw [← hm']
            · rw [if_neg (by rw [hit_mk, decide_eq_true_eq]; omega)]
              have hl := ih.look n
              have e0 : AM.look G n = off := by unfold AM.look; simp [c']
              rw [e0] at hl
              by_cases f : n < k
              · rw [if_pos f] at hl; rw [if_pos (by omega), hl]
              · rw [if_neg (by omega)]
        · rw [lastOf_snoc]; show (k : Int) + 1 = _; omega
        · rw [lastOf_snoc]; rfl
        · rw [lastOf_snoc]; rfl
        · have : (F k).m = false := h
          rw [hm'] at this; cases this

theorem gather_good (F : Nat → St) (hF : Fine F) : good (gatherN F) = true := (gather_inv F hF 256 (Nat.le_refl _)).good
theorem gather_look (F : Nat → St) (hF : Fine F) (n : Nat) (hn : n < 256) : look (gatherN F) n = F n := by
  have := (gather_inv F hF 256 (Nat.le_refl _)).look n
  rw [if_pos hn] at this
  exact this
theorem spread_look (l : List Ar) : ∀ (m : Nat) (G : List Ar), G.length = m → good G = true → ∀ n : Nat, look G n = spreadTo G G.length n
  | 0, G, hm, _, n => by
    have e : G = [] := List.eq_nil_of_length_eq_zero hm
    subst e; rfl
  | m + 1, G, hm, hg, n => by
    rcases List.eq_nil_or_concat G with rfl | ⟨H, a, rfl⟩
    · simp at hm
    · rw [List.concat_eq_append] at *
      rw [good_snoc, Bool.and_eq_true] at hg
      have ih := spread_look l m H (by simpa using hm) hg.1 n
      have hs : ∀ k, k ≤ H.length → spreadTo (H ++ [a]) k = spreadTo H k := by
        intro k
        induction k with
        | zero => intro _; rfl
        | succ k ihk => intro hk; simp only [spreadTo]; rw [ihk (by omega), at_append_left H [a] k (by omega)]
      rw [List.length_append]
      show _ = spreadTo (H ++ [a]) (H.length + 1) n
      simp only [spreadTo]
      rw [hs H.length (Nat.le_refl _), at_append_last, look_snoc]
      simp only [layTo]
      by_cases c : (findFrom H n).2 = true
      · rw [if_pos c, ih]
        have hb := good_bound _ H rfl hg.1 n c
        have hok := hg.2
        simp only [okNext, Bool.and_eq_true] at hok
        have hfo := hok.2
        have hne : ¬ H.length = 0 := by
          intro e
          have e' : H = [] := List.eq_nil_of_length_eq_zero e
          subst e'; simp [findFrom] at c
        simp only [beq_iff_eq, Bool.or_eq_true, hne, false_or] at hfo
        have hle : (lastOf H).last0 ≤ a.page := by
          unfold followB at hfo
          split at hfo
          · omega
          · simp at hfo; omega
        rw [if_neg (by omega)]
      · rw [if_neg c]
        have e0 : look H n = off := by unfold look; simp [show (findFrom H n).2 = false by simpa using c]
        by_cases d : hit a n = true
        · rw [if_pos d, if_pos (by simpa [hit] using d)]
        · rw [if_neg d, if_neg (by simpa [hit] using d), ← ih, e0]
end Go.Proofs.Ytbgnagognnklbaa.AM
