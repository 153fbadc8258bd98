import Derived.Test.YteieplodndfbhaaGK01
import Derived.WalkKit
import Derived.Below
import Derived.Test.YteieplodndfbhaaProg
import Derived.Test.YteieplodndfbhaaGK00
import Derived.WalkLawsBesides
import Derived.WalkSpells
/- The reference's look at linked programs says the same; plain Lean. -/
namespace Go.Proofs.Yteieplodndfbhaa.LM
open Go.RowKit
set_option linter.unusedVariables false
set_option maxRecDepth 100000

def riseAt (hs : List Sh) (k : Nat) : Bool := k == 0 || decide ((shAt hs (k - 1)).page < (shAt hs k).page)
def riseTo (hs : List Sh) : Nat → Bool
  | 0 => true
  | k + 1 => riseTo hs k && (sheetB (shAt hs k) && riseAt hs k)
def riseB (hs : List Sh) : Bool := riseTo hs hs.length
theorem riseTo_false (l : List Sh) : ∀ (k n : Nat), k ≤ n → riseTo l k = false → riseTo l n = false
  | k, 0, h, hk => by obtain rfl : k = 0 := by omega
                      exact hk
  | k, n + 1, h, hk => by
    by_cases e : k = n + 1
    · subst e; exact hk
    · simp [riseTo, riseTo_false l k n (by omega) hk]
theorem rise_bad (l : List Sh) (k : Nat) (hk : k < l.length) (h : (sheetB (shAt l k) && riseAt l k) = false) : riseB l = false := riseTo_false l (k + 1) l.length (by omega) (by simp only [riseTo]; rw [h, Bool.and_false])
theorem riseTo_ok (l : List Sh) : ∀ n, riseTo l n = true → ∀ i, i < n → sheetB (shAt l i) = true ∧ riseAt l i = true
  | 0, _, i, hi => by omega
  | n + 1, h, i, hi => by
    simp only [riseTo, Bool.and_eq_true] at h
    by_cases e : i = n
    · subst e; exact h.2
    · exact riseTo_ok l n h.1 i (by omega)
theorem riseTo_of (l : List Sh) : ∀ n, (∀ i, i < n → sheetB (shAt l i) = true ∧ riseAt l i = true) → riseTo l n = true
  | 0, _ => rfl
  | n + 1, h => by
    simp only [riseTo, Bool.and_eq_true]
    exact ⟨riseTo_of l n (fun i hi => h i (by omega)), h n (by omega)⟩
/-- are the first k sheets' pages in areas that are not Zero? -/
def inAt (l : List AM.Ar) (hs : List Sh) (k : Nat) : Bool := (AM.findFrom l (shAt hs k).page).2 && !(AM.findFrom l (shAt hs k).page).1.zero
def inTo (l : List AM.Ar) (hs : List Sh) : Nat → Bool
  | 0 => true
  | k + 1 => inTo l hs k && inAt l hs k
theorem inTo_false (l : List AM.Ar) (hs : List Sh) : ∀ (k n : Nat), k ≤ n → inTo l hs k = false → inTo l hs n = false
  | k, 0, h, hk => by obtain rfl : k = 0 := by omega
                      exact hk
  | k, n + 1, h, hk => by
    by_cases e : k = n + 1
    · subst e; exact hk
    · simp [inTo, inTo_false l hs k n (by omega) hk]
theorem in_bad (l : List AM.Ar) (hs : List Sh) (k : Nat) (hk : k < hs.length) (h : inAt l hs k = false) : inTo l hs hs.length = false := inTo_false l hs (k + 1) hs.length (by omega) (by simp only [inTo]; rw [h, Bool.and_false])
theorem inTo_ok (l : List AM.Ar) (hs : List Sh) : ∀ n, inTo l hs n = true → ∀ i, i < n → inAt l hs i = true
  | 0, _, i, hi => by omega
  | n + 1, h, i, hi => by
    simp only [inTo, Bool.and_eq_true] at h
    by_cases e : i = n
    · subst e; exact h.2
    · exact inTo_ok l hs n h.1 i (by omega)
theorem inTo_of (l : List AM.Ar) (hs : List Sh) : ∀ n, (∀ i, i < n → inAt l hs i = true) → inTo l hs n = true
  | 0, _ => rfl
  | n + 1, h => by
    simp only [inTo, Bool.and_eq_true]
    exact ⟨inTo_of l hs n (fun i hi => h i (by omega)), h n (by omega)⟩
/-- what the reference's look answers -/
def checkR (l : List AM.Ar) (hs : List Sh) (en : Int) : Int := if AM.checkN l = 0 then (if decide ((hs.length : Int) = AM.sumTo l l.length) && (riseB hs && (inTo l hs hs.length && entB l en)) then 0 else 1) else AM.checkN l

/-! the pages of areas that are right rise -/
def Rising (L : List Int) : Prop := L.Pairwise (· < ·)
theorem pagesN_mem (a : AM.Ar) (n : Nat) (x : Int) : x ∈ pagesN a n ↔ a.page ≤ x ∧ x < a.page + (n : Int) := by
  unfold pagesN
  rw [List.mem_map]
  constructor
  · rintro ⟨m, hm, rfl⟩
    have := List.mem_range.1 hm
    omega
  · rintro ⟨h1, h2⟩
    exact ⟨(x - a.page).toNat, List.mem_range.2 (by omega), by omega⟩
theorem pagesN_rising (a : AM.Ar) : ∀ n, Rising (pagesN a n)
  | 0 => by simp [pagesN, Rising]
  | n + 1 => by
    rw [pagesN_succ]
    unfold Rising
    rw [List.pairwise_append]
    refine ⟨pagesN_rising a n, by simp, fun x hx y hy => ?_⟩
    have := (pagesN_mem a n x).1 hx
    simp at hy
    omega
theorem pagesN_length (a : AM.Ar) (n : Nat) : (pagesN a n).length = n := by simp [pagesN]
/-- what the first i areas have lies ahead of where the next one begins -/
theorem next_ge (l : List AM.Ar) (hc : AM.checkN l = 0) (i : Nat) (hi : i + 1 < l.length) : (AM.at_ l i).page + (AM.at_ l i).pages ≤ (AM.at_ l (i + 1)).page := by
  have h := AM.good_pages l hc (i + 1) hi
  simp only [AM.okAt, Bool.and_eq_true, Nat.add_sub_cancel] at h
  have h2 := h.2
  have e : (i + 1 == 0) = false := by simp
  rw [e, Bool.false_or] at h2
  unfold AM.followB AM.Ar.last0 at h2
  split at h2
  · omega
  · simp at h2
    omega
theorem pagesTo_lt (l : List AM.Ar) (hc : AM.checkN l = 0) : ∀ i, i ≤ l.length → ∀ x ∈ pagesTo l i, ∀ j, j < l.length → i ≤ j → x < (AM.at_ l j).page
  | 0, _, x, hx, j, _, _ => by simp [pagesTo] at hx
  | i + 1, hi, x, hx, j, hj, hij => by
    simp only [pagesTo, List.mem_append] at hx
    rcases hx with hx | hx
    · exact pagesTo_lt l hc i (by omega) x hx j hj (by omega)
    · have hk := AM.okAt_pages l i (AM.good_pages l hc i (by omega))
      have h1 := (pagesN_mem _ _ _).1 hx
      have step : ∀ d, i + 1 + d < l.length → (AM.at_ l i).page + (AM.at_ l i).pages ≤ (AM.at_ l (i + 1 + d)).page := by
        intro d
        induction d with
        | zero => intro h; exact next_ge l hc i h
        | succ d ih =>
          intro h
          have h2 := ih (by omega)
          have h3 := next_ge l hc (i + 1 + d) h
          have h4 := AM.okAt_pages l (i + 1 + d) (AM.good_pages l hc (i + 1 + d) (by omega))
          have e : i + 1 + (d + 1) = i + 1 + d + 1 := by omega
          rw [e]
          omega
      have := step (j - (i + 1)) (by omega)
      have e : i + 1 + (j - (i + 1)) = j := by omega
      rw [e] at this
      omega
theorem pagesTo_rising (l : List AM.Ar) (hc : AM.checkN l = 0) : ∀ i, i ≤ l.length → Rising (pagesTo l i)
  | 0, _ => by simp [pagesTo, Rising]
  | i + 1, hi => by
    simp only [pagesTo]
    unfold Rising
    rw [List.pairwise_append]
    refine ⟨pagesTo_rising l hc i (by omega), pagesN_rising _ _, fun x hx y hy => ?_⟩
    have h1 := pagesTo_lt l hc i (by omega) x hx i (by omega) (Nat.le_refl _)
    have h2 := (pagesN_mem _ _ _).1 hy
    omega
theorem pagesTo_length (l : List AM.Ar) (hc : AM.checkN l = 0) : ∀ i, i ≤ l.length → ((pagesTo l i).length : Int) = AM.sumTo l i
  | 0, _ => rfl
  | i + 1, hi => by
    have ih := pagesTo_length l hc i (by omega)
    have hk := AM.okAt_pages l i (AM.good_pages l hc i (by omega))
    simp only [pagesTo, AM.sumTo, List.length_append, pagesN_length]
    omega
theorem pagesTo_mem (l : List AM.Ar) (x : Int) : ∀ i, x ∈ pagesTo l i ↔ ∃ k, k < i ∧ AM.hit (AM.at_ l k) x = true
  | 0 => by simp [pagesTo]
  | i + 1 => by
    simp only [pagesTo, List.mem_append]
    rw [pagesTo_mem l x i, pagesN_mem]
    constructor
    · rintro (⟨k, hk, h⟩ | h)
      · exact ⟨k, by omega, h⟩
      · exact ⟨i, by omega, by unfold AM.hit AM.Ar.last0; exact decide_eq_true ⟨h.1, by omega⟩⟩
    · rintro ⟨k, hk, h⟩
      by_cases e : k = i
      · subst e
        right
        unfold AM.hit AM.Ar.last0 at h
        have := of_decide_eq_true h
        omega
      · exact .inl ⟨k, by omega, h⟩
theorem rising_tail {x : Int} {L : List Int} (h : Rising (x :: L)) : Rising L ∧ ∀ z ∈ L, x < z := ⟨(List.pairwise_cons.1 h).2, (List.pairwise_cons.1 h).1⟩
theorem rising_len : ∀ (K L : List Int), Rising L → Rising K → (∀ z ∈ L, z ∈ K) → L.length ≤ K.length
  | [], L, _, _, hm => by
    cases L with
    | nil => exact Nat.le_refl _
    | cons x L => exact absurd (hm x List.mem_cons_self) (by simp)
  | y :: K, L, hL, hK, hm => by
    cases L with
    | nil => exact Nat.zero_le _
    | cons x L =>
      obtain ⟨hL1, hL2⟩ := rising_tail hL
      obtain ⟨hK1, hK2⟩ := rising_tail hK
      by_cases e : x = y
      · subst e
        have := rising_len K L hL1 hK1 (fun z hz => by
          have h1 := hL2 z hz
          rcases List.mem_cons.1 (hm z (List.mem_cons_of_mem _ hz)) with g | g
          · omega
          · exact g)
        simp only [List.length_cons]
        omega
      · have hx : x ∈ K := by
          rcases List.mem_cons.1 (hm x List.mem_cons_self) with g | g
          · exact (e g).elim
          · exact g
        have hyx := hK2 x hx
        have := rising_len K (x :: L) hL hK1 (fun z hz => by
          rcases List.mem_cons.1 hz with g | g
          · subst g; exact hx
          · have h1 := hL2 z g
            rcases List.mem_cons.1 (hm z hz) with q | q
            · omega
            · exact q)
        simp only [List.length_cons] at this ⊢
        omega
/-- a rising list all of whose elements stand in another one that is no longer is that one -/
theorem rising_eq : ∀ (L K : List Int), Rising L → Rising K → (∀ z ∈ L, z ∈ K) → K.length ≤ L.length → L = K
  | [], K, _, _, _, hl => by
    cases K with
    | nil => rfl
    | cons y K => simp at hl
  | x :: L, K, hL, hK, hm, hl => by
    cases K with
    | nil => exact absurd (hm x List.mem_cons_self) (by simp)
    | cons y K =>
      obtain ⟨hL1, hL2⟩ := rising_tail hL
      obtain ⟨hK1, hK2⟩ := rising_tail hK
      have e : x = y := by
        rcases List.mem_cons.1 (hm x List.mem_cons_self) with g | g
        · exact g
        · have hyx := hK2 x g
          have := rising_len K (x :: L) hL hK1 (fun z hz => by
            rcases List.mem_cons.1 hz with q | q
            · subst q; exact g
            · have h1 := hL2 z q
              rcases List.mem_cons.1 (hm z hz) with r | r
              · omega
              · exact r)
          simp only [List.length_cons] at this hl
          omega
      subst e
      rw [rising_eq L K hL1 hK1 (fun z hz => by
        have h1 := hL2 z hz
        rcases List.mem_cons.1 (hm z (List.mem_cons_of_mem _ hz)) with g | g
        · omega
        · exact g) (by simp only [List.length_cons] at hl; omega)]
theorem rise_rising (hs : List Sh) (h : riseB hs = true) : Rising (hs.map (·.page)) := by
  have step : ∀ i j, i < j → j < hs.length → (shAt hs i).page < (shAt hs j).page := by
    intro i j hij hj
    induction j with
    | zero => omega
    | succ j ih =>
      have h1 := (riseTo_ok hs hs.length h (j + 1) hj).2
      unfold riseAt at h1
      have e : (j + 1 == 0) = false := by simp
      rw [e, Bool.false_or] at h1
      have h2 := of_decide_eq_true h1
      rw [Nat.add_sub_cancel] at h2
      by_cases e2 : i = j
      · subst e2; exact h2
      · have := ih (by omega) (by omega)
        omega
  unfold Rising
  rw [List.pairwise_iff_getElem]
  intro i j hi hj hij
  rw [List.length_map] at hi hj
  have := step i j hij hj
  unfold shAt at this
  rw [List.getD_eq_getElem?_getD, List.getD_eq_getElem?_getD, List.getElem?_eq_getElem hi, List.getElem?_eq_getElem hj] at this
  simpa using this
theorem rising_rise (hs : List Sh) (h : Rising (hs.map (·.page))) (k : Nat) (hk : k < hs.length) : riseAt hs k = true := by
  unfold riseAt
  by_cases e : k = 0
  · subst e; rfl
  · have e2 : (k == 0) = false := by simpa using e
    rw [e2, Bool.false_or]
    unfold Rising at h
    rw [List.pairwise_iff_getElem] at h
    have := h (k - 1) k (by rw [List.length_map]; omega) (by rw [List.length_map]; exact hk) (by omega)
    refine decide_eq_true ?_
    unfold shAt
    rw [List.getD_eq_getElem?_getD, List.getD_eq_getElem?_getD, List.getElem?_eq_getElem (by omega : k - 1 < hs.length), List.getElem?_eq_getElem hk]
    simpa using this
theorem find_hit (l : List AM.Ar) (p : Int) (k : Nat) (hk : k < l.length) (h : AM.hit (AM.at_ l k) p = true) : ∃ j, j < l.length ∧ AM.findFrom l p = (AM.at_ l j, true) := by
  induction k using Nat.strongRecOn with
  | _ k ih =>
    by_cases g : ∃ j, j < k ∧ AM.hit (AM.at_ l j) p = true
    · obtain ⟨j, hj, hj2⟩ := g
      exact ih j hj (by omega) hj2
    · exact ⟨k, hk, AM.findFrom_at l p k hk (fun i hi => by
        cases q : AM.hit (AM.at_ l i) p
        · rfl
        · exact (g ⟨i, hi, q⟩).elim) h⟩
theorem found_hit (l : List AM.Ar) (p : Int) (h : (AM.findFrom l p).2 = true) : ∃ k, k < l.length ∧ AM.hit (AM.at_ l k) p = true := by
  by_cases e : ∃ k, k < l.length ∧ AM.hit (AM.at_ l k) p = true
  · exact e
  · rw [AM.findFrom_none l p (fun i hi => by
      cases q : AM.hit (AM.at_ l i) p
      · rfl
      · exact (e ⟨i, hi, q⟩).elim)] at h
    cases h
theorem at_mem (hs : List Sh) (k : Nat) (h : k < hs.length) : (shAt hs k).page ∈ hs.map (·.page) := by
  unfold shAt
  rw [List.getD_eq_getElem?_getD, List.getElem?_eq_getElem h]
  exact List.mem_map_of_mem (List.getElem_mem h)
theorem mem_at (hs : List Sh) (x : Int) (h : x ∈ hs.map (·.page)) : ∃ k, k < hs.length ∧ (shAt hs k).page = x := by
  obtain ⟨s, hs1, rfl⟩ := List.mem_map.1 h
  obtain ⟨k, hk, e⟩ := List.getElem_of_mem hs1
  refine ⟨k, hk, ?_⟩
  unfold shAt
  rw [List.getD_eq_getElem?_getD, List.getElem?_eq_getElem hk, ← e]
  rfl
/-- two areas have no page in common -/
theorem hit_one (l : List AM.Ar) (hc : AM.checkN l = 0) (p : Int) (j k : Nat) (hj : j < l.length) (hk : k < l.length) (h1 : AM.hit (AM.at_ l j) p = true) (h2 : AM.hit (AM.at_ l k) p = true) : j = k := by
  have key : ∀ j k, j < k → k < l.length → AM.hit (AM.at_ l j) p = true → AM.hit (AM.at_ l k) p = true → False := by
    intro j k hjk hk h1 h2
    have hm : p ∈ pagesTo l k := (pagesTo_mem l p k).2 ⟨j, hjk, h1⟩
    have := pagesTo_lt l hc k (by omega) p hm k hk (Nat.le_refl _)
    unfold AM.hit at h2
    have := of_decide_eq_true h2
    omega
  rcases Nat.lt_trichotomy j k with g | g | g
  · exact (key j k g hk h1 h2).elim
  · exact g
  · exact (key k j g hj h2 h1).elim
theorem look_same (l : List AM.Ar) (hs : List Sh) (hc : AM.checkN l = 0) :
    (!anyZeroB l && (forEachB l hs && sheetsB hs)) = (decide ((hs.length : Int) = AM.sumTo l l.length) && (riseB hs && inTo l hs hs.length)) := by
  rw [Bool.eq_iff_iff]
  simp only [Bool.and_eq_true, Bool.not_eq_true', decide_eq_true_eq]
  constructor
  · rintro ⟨hz, he, hsh⟩
    have he' : hs.map (·.page) = pagesOf l := of_decide_eq_true he
    have hlen := congrArg List.length he'
    rw [List.length_map] at hlen
    have hr : Rising (hs.map (·.page)) := by rw [he']; exact pagesTo_rising l hc l.length (Nat.le_refl _)
    refine ⟨by rw [hlen]; exact pagesTo_length l hc l.length (Nat.le_refl _), ?_, ?_⟩
    · exact riseTo_of hs hs.length (fun i hi => ⟨sheetsTo_ok hs hs.length hsh i hi, rising_rise hs hr i hi⟩)
    · refine inTo_of l hs hs.length (fun i hi => ?_)
      have hm : (shAt hs i).page ∈ pagesTo l l.length := by
        have := at_mem hs i hi
        rw [he'] at this
        exact this
      obtain ⟨k, hk, hh⟩ := (pagesTo_mem l _ _).1 hm
      obtain ⟨j, hj, e⟩ := find_hit l _ k hk hh
      unfold inAt
      rw [e]
      simp [zero_none l l.length hz j hj]
  · rintro ⟨hlen, hr, hin⟩
    have hsub : ∀ z ∈ hs.map (·.page), z ∈ pagesOf l := fun z hz => by
      obtain ⟨k, hk, rfl⟩ := mem_at hs z hz
      have := inTo_ok l hs hs.length hin k hk
      unfold inAt at this
      simp only [Bool.and_eq_true] at this
      obtain ⟨j, hj, hh⟩ := found_hit l _ this.1
      exact (pagesTo_mem l _ _).2 ⟨j, hj, hh⟩
    have he' : hs.map (·.page) = pagesOf l := rising_eq _ _ (rise_rising hs hr) (pagesTo_rising l hc l.length (Nat.le_refl _)) hsub (by
      have := pagesTo_length l hc l.length (Nat.le_refl _)
      unfold pagesOf
      rw [List.length_map]
      omega)
    refine ⟨?_, decide_eq_true he', ?_⟩
    · cases hz : anyZeroB l
      · rfl
      · exfalso
        have : ∃ i, i < l.length ∧ (AM.at_ l i).zero = true := by
          by_cases g : ∃ i, i < l.length ∧ (AM.at_ l i).zero = true
          · exact g
          · have key : ∀ n, n ≤ l.length → zeroTo l n = false := by
              intro n
              induction n with
              | zero => intro _; rfl
              | succ n ih =>
                intro hn
                simp only [zeroTo]
                rw [ih (by omega), Bool.false_or]
                cases q : (AM.at_ l n).zero
                · rfl
                · exact (g ⟨n, by omega, q⟩).elim
            unfold anyZeroB at hz
            rw [key l.length (Nat.le_refl _)] at hz
            cases hz
        obtain ⟨i, hi, hzi⟩ := this
        have hk := AM.okAt_pages l i (AM.good_pages l hc i hi)
        have hh : AM.hit (AM.at_ l i) (AM.at_ l i).page = true := by
          unfold AM.hit AM.Ar.last0
          exact decide_eq_true ⟨Int.le_refl _, by omega⟩
        have hm : (AM.at_ l i).page ∈ hs.map (·.page) := by
          rw [he']
          exact (pagesTo_mem l _ _).2 ⟨i, hi, hh⟩
        obtain ⟨k, hk1, hk2⟩ := mem_at hs _ hm
        have hin2 := inTo_ok l hs hs.length hin k hk1
        unfold inAt at hin2
        rw [hk2] at hin2
        obtain ⟨j, hj, e⟩ := find_hit l _ i hi hh
        have hj2 : AM.hit (AM.at_ l j) (AM.at_ l i).page = true := by
          obtain ⟨m, hm1, hm2⟩ := found_hit l (AM.at_ l i).page (by rw [e])
          have hmi := hit_one l hc _ m i hm1 hi hm2 hh
          have : AM.findFrom l (AM.at_ l i).page = (AM.at_ l i, true) := by
            refine AM.findFrom_at l _ i hi (fun q hq => ?_) hh
            cases r : AM.hit (AM.at_ l q) (AM.at_ l i).page
            · rfl
            · have := hit_one l hc _ q i (by omega) hi r hh
              omega
          rw [this] at e
          injection e with e1 _
          rw [← e1]
          exact hh
        have := hit_one l hc _ j i hj hi hj2 hh
        subst this
        rw [e, hzi] at hin2
        simp at hin2
    · have key : ∀ n, n ≤ hs.length → sheetsTo hs n = true := by
        intro n
        induction n with
        | zero => intro _; rfl
        | succ n ih =>
          intro hn
          simp only [sheetsTo, Bool.and_eq_true]
          exact ⟨ih (by omega), (riseTo_ok hs hs.length hr n (by omega)).1⟩
      exact key hs.length (Nat.le_refl _)
/-- both looks say the same -/
theorem check_same (l : List AM.Ar) (hs : List Sh) (en : Int) : checkL l hs en = checkR l hs en := by
  unfold checkL checkR
  by_cases hc : AM.checkN l = 0
  · rw [if_pos hc, if_pos hc]
    have h := look_same l hs hc
    have e : (!anyZeroB l && (forEachB l hs && (sheetsB hs && entB l en))) = (decide ((hs.length : Int) = AM.sumTo l l.length) && (riseB hs && (inTo l hs hs.length && entB l en))) := by
      have a : (!anyZeroB l && (forEachB l hs && (sheetsB hs && entB l en))) = ((!anyZeroB l && (forEachB l hs && sheetsB hs)) && entB l en) := by
        cases anyZeroB l <;> cases forEachB l hs <;> cases sheetsB hs <;> rfl
      have b : (decide ((hs.length : Int) = AM.sumTo l l.length) && (riseB hs && (inTo l hs hs.length && entB l en))) = ((decide ((hs.length : Int) = AM.sumTo l l.length) && (riseB hs && inTo l hs hs.length)) && entB l en) := by
        cases decide ((hs.length : Int) = AM.sumTo l l.length) <;> cases riseB hs <;> cases inTo l hs hs.length <;> rfl
      rw [a, b, h]
    rw [e]
  · rw [if_neg hc, if_neg hc]
end Go.Proofs.Yteieplodndfbhaa.LM
/- Objects: images and where they lie; plain Lean. -/
namespace Go.Proofs.Yteieplodndfbhaa.LM
open Go.RowKit
set_option linter.unusedVariables false
set_option maxRecDepth 100000

/-- an image, where its lists lie, and its base -/
structure Ob where
  i : M.Im
  a : M.At
  base : Int
def ob0 : Ob := ⟨⟨⟨#[]⟩, [], [], [], [], 0⟩, ⟨none, 0, none, 0, none, 0, none, 0⟩, 0⟩
def obAt (l : List Ob) (k : Nat) : Ob := l.getD k ob0
def cellsO (o : Ob) : Array Value := #[.string o.i.name, .slice o.a.an o.i.needs.length o.a.cn, .slice o.a.ag o.i.segs.length o.a.cg, .slice o.a.ay o.i.syms.length o.a.cy, .slice o.a.ar o.i.rels.length o.a.cr, .int .i64 o.i.entry, .int .i64 o.base]
/-- the cells of objects -/
def LieO (w : World) (b off : Nat) (l : List Ob) : Prop := ∀ k, k < l.length →
  (w.cell? ⟨b, off + k * 7, none⟩ = some (.string (obAt l k).i.name) ∧ w.cell? ⟨b, off + k * 7 + 1, none⟩ = some (.slice (obAt l k).a.an (obAt l k).i.needs.length (obAt l k).a.cn) ∧
   w.cell? ⟨b, off + k * 7 + 2, none⟩ = some (.slice (obAt l k).a.ag (obAt l k).i.segs.length (obAt l k).a.cg) ∧ w.cell? ⟨b, off + k * 7 + 3, none⟩ = some (.slice (obAt l k).a.ay (obAt l k).i.syms.length (obAt l k).a.cy) ∧
   w.cell? ⟨b, off + k * 7 + 4, none⟩ = some (.slice (obAt l k).a.ar (obAt l k).i.rels.length (obAt l k).a.cr) ∧ w.cell? ⟨b, off + k * 7 + 5, none⟩ = some (.int .i64 (obAt l k).i.entry) ∧ w.cell? ⟨b, off + k * 7 + 6, none⟩ = some (.int .i64 (obAt l k).base)) ∧ M.HasIm w (obAt l k).a (obAt l k).i
theorem lieO {w w' : World} {b off : Nat} {l : List Ob} (hb : Below w.heap.size w w') (hlt : b < w.heap.size) (h : LieO w b off l) : LieO w' b off l := fun k hk => by
  obtain ⟨⟨c0, c1, c2, c3, c4, c5, c6⟩, hi⟩ := h k hk
  exact ⟨⟨(M.below_cell hb hlt).trans c0, (M.below_cell hb hlt).trans c1, (M.below_cell hb hlt).trans c2, (M.below_cell hb hlt).trans c3, (M.below_cell hb hlt).trans c4, (M.below_cell hb hlt).trans c5, (M.below_cell hb hlt).trans c6⟩, hi.below hb⟩
def HasO (w : World) (ao : Option Addr) (l : List Ob) : Prop := M.HasBy LieO w ao l
theorem HasO.below {w w' : World} {ao : Option Addr} {l : List Ob} (h : HasO w ao l) (hb : Below w.heap.size w w') : HasO w' ao l := M.HasBy.below (lie := LieO) (fun hb hlt h => lieO hb hlt h) h hb

def lastSeg (i : M.Im) : M.Sg := M.sgAt i.segs (i.segs.length - 1)
/-- the page behind the last one -/
def endO (o : Ob) : Int := o.base + (lastSeg o.i).page + (lastSeg o.i).pages
def addrO (o : Ob) (at' : Int) : Int := o.base * 16 + at'
def protN (s : M.Sg) : Int := if s.wr then (if s.ex then 3 else 1) else (if s.ex then 2 else 0)
/-- the first object that has that name -/
def nameIx (l : List Ob) (s : ByteArray) : Nat → Int
  | 0 => -1
  | k + 1 => let r := nameIx l s k; if 0 ≤ r then r else if (obAt l k).i.name == s then (k : Int) else -1
def hasName (l : List Ob) (s : ByteArray) : Bool := l.any (fun o => o.i.name == s)
/-- an image that may be, as far as numbers go -/
theorem seg_bounds {i : M.Im} (hc : M.chkN i = 0) (k : Nat) (hk : k < i.segs.length) : 0 ≤ (M.sgAt i.segs k).page ∧ 1 ≤ (M.sgAt i.segs k).pages ∧ (M.sgAt i.segs k).page + (M.sgAt i.segs k).pages ≤ 255 ∧ ((M.sgAt i.segs k).data.size : Int) ≤ (M.sgAt i.segs k).pages * 16 := by
  unfold M.chkN at hc
  split at hc
  · simp at hc
  · split at hc
    · simp at hc
    · split at hc
      · simp at hc
      · rename_i h
        have h' : M.rangesB i = true := by simpa using h
        unfold M.rangesB at h'
        have := M.all_at M.rangeB M.sg0 i.segs k hk h'
        unfold M.rangeB at this
        exact of_decide_eq_true this
theorem counts_of {i : M.Im} (hc : M.chkN i = 0) : 1 ≤ i.segs.length ∧ i.segs.length ≤ 6 ∧ i.needs.length ≤ 4 ∧ i.syms.length ≤ 12 ∧ i.rels.length ≤ 16 := by
  unfold M.chkN at hc
  split at hc
  · simp at hc
  · split at hc
    · simp at hc
    · rename_i h
      have h' : M.countsB i = true := by simpa using h
      unfold M.countsB at h'
      exact of_decide_eq_true h'
theorem last_bounds {i : M.Im} (hc : M.chkN i = 0) : 0 ≤ (lastSeg i).page ∧ 1 ≤ (lastSeg i).pages ∧ (lastSeg i).page + (lastSeg i).pages ≤ 255 := by
  have h1 := counts_of hc
  have h2 := seg_bounds hc (i.segs.length - 1) (by omega)
  exact ⟨h2.1, h2.2.1, h2.2.2.1⟩
end Go.Proofs.Yteieplodndfbhaa.LM
/- Blocks that are known whole. -/
namespace Go.Proofs.Yteieplodndfbhaa.B
open Go.RowKit
set_option linter.unusedVariables false
set_option maxRecDepth 100000

theorem below {w w' : World} {b N : Nat} {o : Obj} (h : w.heap[b]? = some o) (hb : Below N w w') (hlt : b < N) : w'.heap[b]? = some o := (hb.block b hlt).trans h
theorem isLt {w : World} {b : Nat} {o : Obj} (h : w.heap[b]? = some o) : b < w.heap.size := (Array.getElem?_eq_some_iff.1 h).1
theorem alloc {w : World} {b : Nat} {o : Obj} (h : w.heap[b]? = some o) (o' : Obj) : (w.alloc o').heap[b]? = some o := (Below.heap_alloc w o' b (isLt h)).trans h
theorem cell {w : World} {b : Nat} {C : Array Value} {t : TypeId} {fr : Nat × Nat} (h : w.heap[b]? = some (.cells C t fr)) (j : Nat) {v : Value} (hj : C[j]? = some v) : w.cell? ⟨b, j, none⟩ = some v := (cell_of_row w b j C t fr h).trans hj
theorem free {w : World} {b : Nat} {C : Array Value} {t : TypeId} (h : w.heap[b]? = some (.cells C t (0, 0))) (j : Nat) : w.frozen? ⟨b, j, none⟩ = false := frozen_of_row w b j C t h
theorem other {w : World} {b : Nat} {o : Obj} (h : w.heap[b]? = some o) (g j : Nat) (v : Value) (hne : b ≠ g) : (w.setCell ⟨g, j, none⟩ v).heap[b]? = some o := (heap_setCell_other w ⟨g, j, none⟩ b v hne).trans h
theorem set {w : World} {b : Nat} {C : Array Value} {t : TypeId} (h : w.heap[b]? = some (.cells C t (0, 0))) (j : Nat) (v : Value) : (w.setCell ⟨b, j, none⟩ v).heap[b]? = some (.cells (C.setIfInBounds j v) t (0, 0)) := heap_setCell_same w b j C t v h
theorem new (w : World) (C : Array Value) (t : TypeId) : (w.alloc (.cells C t)).heap[w.heap.size]? = some (.cells C t (0, 0)) := heap_alloc_new w _
theorem news {w : World} {b : Nat} {C : Array Value} {t : TypeId} {fr : Nat × Nat} (h : w.heap[b]? = some (.cells C t fr)) : ∀ j u, C.toList[j]? = some u → w.cell? ((⟨b, 0, none⟩ : Addr).add j) = some u := fun j u hj => by
  rw [Addr.add_lit, Nat.zero_add]
  exact cell h j (by simpa using hj)
theorem grown {w w' : World} {b : Nat} {o : Obj} {row : Option Nat} (h : w.heap[b]? = some o) (hg : w.grownBy w' row) (hne : some b ≠ row) : w'.heap[b]? = some o := (hg.block b (isLt h) hne).trans h
end Go.Proofs.Yteieplodndfbhaa.B
namespace Go.Proofs.Yteieplodndfbhaa.W
open Go.RowKit
set_option linter.unusedVariables false
set_option maxRecDepth 100000

theorem hideC {p : Prop} (h : p) : Hid p := h
theorem ret_bool {a b : Bool} (h : a = b) : Ending.returned (.bool a) = .returned (.bool b) := by rw [h]

set_option maxHeartbeats 1000000 in
theorem inName_any (n : Int) (w : World) : Calls Try.prog 98 #[.int .u8 n] w fun e w' => e = .returned (.bool (M.signB n)) ∧ w = w' := by
  by_cases h1 : 97 ≤ n ∧ n ≤ 122
  · have e : M.signB n = true := by unfold M.signB; rw [decide_eq_true h1]; rfl
    rw [e]
    obtain ⟨a, b⟩ := h1
    go_enter Try.func98, Try.ntmps98
    go_wp2
    go_ret
    exact ⟨rfl, rfl⟩
  · by_cases h2 : 48 ≤ n ∧ n ≤ 57
    · have e : M.signB n = true := by unfold M.signB; rw [decide_eq_true h2]; simp
      rw [e]
      obtain ⟨a, b⟩ := h2
      have c : decide (97 ≤ n) = false := by simp; omega
      clear h1
      go_enter Try.func98, Try.ntmps98
      go_wp2
      go_ret
      exact ⟨rfl, rfl⟩
    · by_cases h3 : n = 95
      · subst h3
        go_enter Try.func98, Try.ntmps98
        go_wp2
        go_ret
        exact ⟨rfl, rfl⟩
      · have e : M.signB n = false := by unfold M.signB; rw [decide_eq_false h1, decide_eq_false h2, decide_eq_false h3]; rfl
        rw [e]
        have h3' : (n == 95) = false := by simpa using h3
        by_cases a : 97 ≤ n
        · have b : decide (n ≤ 122) = false := by simp; omega
          have c : 48 ≤ n := by omega
          have d : decide (n ≤ 57) = false := by simp; omega
          clear h1 h2
          go_enter Try.func98, Try.ntmps98
          go_wp2
          go_ret
          exact ⟨rfl, rfl⟩
        · have a' : decide (97 ≤ n) = false := by simpa using a
          by_cases c : 48 ≤ n
          · have d : decide (n ≤ 57) = false := by simp; omega
            clear h1 h2
            go_enter Try.func98, Try.ntmps98
            go_wp2
            go_ret
            exact ⟨rfl, rfl⟩
          · have c' : decide (48 ≤ n) = false := by simpa using c
            clear h1 h2
            go_enter Try.func98, Try.ntmps98
            go_wp2
            go_ret
            exact ⟨rfl, rfl⟩

set_option maxHeartbeats 1000000 in
theorem isName_any (s : ByteArray) (w : World) (hs : M.Short s.size) : Calls Try.prog 86 #[.string s] w fun e w' => e = .returned (.bool (M.nameB s)) ∧ w = w' := by
  unfold M.Short at hs
  have hml : s.size ≤ maxLen := by unfold maxLen; omega
  by_cases h1 : 1 ≤ s.size
  · by_cases h2 : s.size ≤ 12
    · have d1 : ¬ (s.size : Int) < 1 := by omega
      have d2 : ¬ 12 < (s.size : Int) := by omega
      go_enter Try.func86, Try.ntmps86
      go_wp2
      go_loop [14] (fun i => ∃ k : Nat, k ≤ s.size ∧ i = .int .i64 k ∧ ∀ j (hj : j < s.size), j < k → M.signB s[j].toNat = true) (fun i => s.size - (intOf i).toNat)
      case atStart => exact ⟨0, by omega, rfl, fun j _ h => by omega⟩
      case round =>
        obtain ⟨k, hk, rfl, hall⟩ := hrel
        have HA := hideC hall
        clear hall
        by_cases hlt : k < s.size
        · cases hc : M.signB s[k].toNat
          · have HR := hideC (M.name_no s k hlt hc)
            go_wp2_with (go_at_call 98; refine (inName_any _ _).mono ?_; rintro e w' ⟨rfl, rfl⟩; rw [hc])
            go_ret
            exact ⟨ret_bool HR.out.symm, rfl⟩
          · have HC := hideC hc
            go_wp2_with (go_at_call 98; refine (inName_any _ _).mono ?_; rintro e w' ⟨rfl, rfl⟩; rw [hc])
            go_round
            case rel => exact ⟨k + 1, by omega, by go_num, fun j hj h => if e : j = k then by subst e; exact HC.out else HA.out j hj (by omega)⟩
            case measure => simp [intOf]; omega
        · obtain rfl : k = s.size := by omega
          have HR := hideC (M.name_yes s h1 h2 (fun k hk => HA.out k hk hk))
          go_wp2
          go_ret
          exact ⟨ret_bool HR.out.symm, rfl⟩
    · have HR := hideC (M.name_len s (fun h => h2 h.2))
      have d1 : ¬ (s.size : Int) < 1 := by omega
      have d2 : 12 < (s.size : Int) := by omega
      go_enter Try.func86, Try.ntmps86
      go_wp2
      go_ret
      exact ⟨ret_bool HR.out.symm, rfl⟩
  · have HR := hideC (M.name_len s (fun h => h1 h.1))
    have d1 : (s.size : Int) < 1 := by omega
    go_enter Try.func86, Try.ntmps86
    go_wp2
    go_ret
    exact ⟨ret_bool HR.out.symm, rfl⟩
end Go.Proofs.Yteieplodndfbhaa.W
namespace Go.Proofs.Yteieplodndfbhaa.W
open Go.RowKit
set_option linter.unusedVariables false
set_option maxRecDepth 100000

theorem within_any (n a b : Int) (w : World) : Calls Try.prog 37 #[.int .i64 n, .int .i64 a, .int .i64 b] w fun e w' => e = .returned (.bool (decide (a ≤ n ∧ n ≤ b))) ∧ w = w' := by
  by_cases h1 : a ≤ n
  · by_cases h2 : n ≤ b
    · rw [show decide (a ≤ n ∧ n ≤ b) = true from decide_eq_true ⟨h1, h2⟩]
      go_enter Try.func37, Try.ntmps37
      go_wp2
      go_ret
      exact ⟨rfl, rfl⟩
    · have d : decide (n ≤ b) = false := decide_eq_false h2
      rw [show decide (a ≤ n ∧ n ≤ b) = false from decide_eq_false (by omega)]
      go_enter Try.func37, Try.ntmps37
      go_wp2
      go_ret
      exact ⟨rfl, rfl⟩
  · have d : decide (a ≤ n) = false := decide_eq_false h1
    rw [show decide (a ≤ n ∧ n ≤ b) = false from decide_eq_false (by omega)]
    go_enter Try.func37, Try.ntmps37
    go_wp2
    go_ret
    exact ⟨rfl, rfl⟩
/-- is n from a to b -/
def inB (n a b : Int) : Bool := decide (a ≤ n ∧ n ≤ b)
theorem inB_yes {n a b : Int} (h : a ≤ n ∧ n ≤ b) : inB n a b = true := decide_eq_true h
theorem inB_no {n a b : Int} (h : ¬ (a ≤ n ∧ n ≤ b)) : inB n a b = false := decide_eq_false h
theorem inB_any (n a b : Int) (w : World) : Calls Try.prog 37 #[.int .i64 n, .int .i64 a, .int .i64 b] w fun e w' => e = .returned (.bool (inB n a b)) ∧ w = w' := within_any n a b w

theorem sign_cases (n : Int) : (M.signB n = true ∧ ((97 ≤ n ∧ n ≤ 122) ∨ (decide (97 ≤ n) = false ∧ 48 ≤ n ∧ n ≤ 57) ∨ n = 95)) ∨
    (M.signB n = false ∧ (n == 95) = false ∧ ((97 ≤ n ∧ decide (n ≤ 122) = false ∧ 48 ≤ n ∧ decide (n ≤ 57) = false) ∨ (decide (97 ≤ n) = false ∧ 48 ≤ n ∧ decide (n ≤ 57) = false) ∨ (decide (97 ≤ n) = false ∧ decide (48 ≤ n) = false))) := by
  unfold M.signB
  by_cases h1 : 97 ≤ n ∧ n ≤ 122
  · exact .inl ⟨by rw [decide_eq_true h1]; rfl, .inl h1⟩
  · by_cases h2 : 48 ≤ n ∧ n ≤ 57
    · exact .inl ⟨by rw [decide_eq_true h2]; simp, .inr (.inl ⟨by simp; omega, h2.1, h2.2⟩)⟩
    · by_cases h3 : n = 95
      · exact .inl ⟨by rw [decide_eq_true h3]; simp, .inr (.inr h3)⟩
      · refine .inr ⟨by rw [decide_eq_false h1, decide_eq_false h2, decide_eq_false h3]; rfl, by simpa using h3, ?_⟩
        by_cases a : 97 ≤ n
        · exact .inl ⟨a, by simp; omega, by omega, by simp; omega⟩
        · by_cases c : 48 ≤ n
          · exact .inr (.inl ⟨by simpa using a, c, by simp; omega⟩)
          · exact .inr (.inr ⟨by simpa using a, by simpa using c⟩)

set_option maxHeartbeats 2000000 in
theorem named_any (s : ByteArray) (w : World) (hs : M.Short s.size) : Calls Try.prog 83 #[.string s] w fun e w' => e = .returned (.bool (M.nameB s)) ∧ w = w' := by
  unfold M.Short at hs
  have hml : s.size ≤ maxLen := by unfold maxLen; omega
  by_cases h1 : 1 ≤ s.size ∧ s.size ≤ 12
  · have d1 : inB (s.size : Int) 1 12 = true := inB_yes (by omega)
    go_enter Try.func83, Try.ntmps83
    go_wp2_with (go_at_call 37; refine (inB_any _ _ _ _).mono ?_; rintro e w' ⟨rfl, rfl⟩; rw [d1])
    go_loop [3] (fun i => ∃ k : Nat, k ≤ s.size ∧ i = .int .i64 k ∧ ∀ j (hj : j < s.size), j < k → M.signB s[j].toNat = true) (fun i => s.size - (intOf i).toNat)
    case atStart => exact ⟨0, by omega, rfl, fun j _ h => by omega⟩
    case round =>
      obtain ⟨k, hk, rfl, hall⟩ := hrel
      have HA := hideC hall
      clear hall
      by_cases hlt : k < s.size
      · have hcs := sign_cases (s[k].toNat : Int)
        have hget := hideC (rfl : s[k] = s[k])
        obtain ⟨c, hcc⟩ : ∃ c : Int, c = (s[k].toNat : Int) := ⟨_, rfl⟩
        rw [← hcc] at hcs
        have HC := hideC hcc
        rcases hcs with ⟨hy, hh⟩ | ⟨hy, h95, hh⟩
        · rcases hh with ⟨g1, g2⟩ | ⟨g1, g2, g3⟩ | g1
          · rw [hcc] at *
            go_wp2
            go_round
            case rel => exact ⟨k + 1, by omega, by go_num, fun j hj h => if e : j = k then by subst e; exact hy else HA.out j hj (by omega)⟩
            case measure => simp [intOf]; omega
          · rw [hcc] at *
            go_wp2
            go_round
            case rel => exact ⟨k + 1, by omega, by go_num, fun j hj h => if e : j = k then by subst e; exact hy else HA.out j hj (by omega)⟩
            case measure => simp [intOf]; omega
          · rw [hcc] at *
            go_wp2
            go_round
            case rel => exact ⟨k + 1, by omega, by go_num, fun j hj h => if e : j = k then by subst e; exact hy else HA.out j hj (by omega)⟩
            case measure => simp [intOf]; omega
        · have HR := hideC (M.name_no s k hlt (by rw [← hcc]; exact hy))
          rcases hh with ⟨g1, g2, g3, g4⟩ | ⟨g1, g2, g3⟩ | ⟨g1, g2⟩
          · rw [hcc] at *
            go_wp2
            go_ret
            exact ⟨ret_bool HR.out.symm, rfl⟩
          · rw [hcc] at *
            go_wp2
            go_ret
            exact ⟨ret_bool HR.out.symm, rfl⟩
          · rw [hcc] at *
            go_wp2
            go_ret
            exact ⟨ret_bool HR.out.symm, rfl⟩
      · obtain rfl : k = s.size := by omega
        have HR := hideC (M.name_yes s h1.1 h1.2 (fun k hk => HA.out k hk hk))
        go_wp2
        go_ret
        exact ⟨ret_bool HR.out.symm, rfl⟩
  · have HR := hideC (M.name_len s h1)
    have d1 : inB (s.size : Int) 1 12 = false := inB_no (by omega)
    go_enter Try.func83, Try.ntmps83
    go_wp2_with (go_at_call 37; refine (inB_any _ _ _ _).mono ?_; rintro e w' ⟨rfl, rfl⟩; rw [d1])
    go_ret
    exact ⟨ret_bool HR.out.symm, rfl⟩
end Go.Proofs.Yteieplodndfbhaa.W
